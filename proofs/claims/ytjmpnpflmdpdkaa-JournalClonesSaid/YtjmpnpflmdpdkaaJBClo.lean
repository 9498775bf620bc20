/- The body of JournalClones. -/
import Derived.Test.YtjmpnpflmdpdkaaJSc
import Derived.Test.YtjmpnpflmdpdkaaJSb
namespace Go.Proofs.Ytjmpnpflmdpdkaa
open Go Go.RowKit FM

/-- a slice of bytes that may be written to -/
def Live (w : World) (A : Option Addr) (n : Nat) : Prop := n = 0 ∨ ∃ g cur t, A = some ⟨g, 0, none⟩ ∧ w.heap[g]? = some (.cells cur t (0, 0)) ∧ n ≤ cur.size ∧ ∀ i, i < n → ∃ x : Nat, x < 256 ∧ cur[i]? = some (.int .u8 (x : Int))
theorem Live.of {w : World} {base n c : Nat} {A : Option Addr} {xs : List Nat} (h : RB w base A n c xs) (hb : By xs) : Live w A n := by
  rcases h.2 with ⟨_, h0⟩ | ⟨g, cap, cur, hv, h1, h2, h3, h4, h5, h6⟩
  · exact .inl h0
  · injection hv with e1 _ e3
    subst e1; subst e3
    refine .inr ⟨g, cur, _, rfl, h2, by omega, fun i hi => ?_⟩
    have hl := Row.len h
    have e : (cells .u8 xs)[i]? = some (.int .u8 ((xs[i]'(by omega) : Nat) : Int)) := by rw [cells_getElem?, List.getElem?_eq_getElem (by omega)]; rfl
    refine ⟨xs[i]'(by omega), hb _ (List.getElem_mem _), ?_⟩
    rw [← h6, Nat.mul_one, List.getElem?_take_of_lt hi] at e
    simpa using e
theorem Live.at_ {w : World} {n i : Nat} {A : Option Addr} (h : Live w A n) (hi : i < n) : ∃ (g x : Nat), A = some ⟨g, 0, none⟩ ∧ x < 256 ∧ w.cell? ⟨g, i, none⟩ = some (.int .u8 (x : Int)) ∧ w.frozen? ⟨g, i, none⟩ = false ∧ ∀ y : Nat, y < 256 → Live (w.setCell ⟨g, i, none⟩ (.int .u8 (y : Int))) A n := by
  rcases h with h0 | ⟨g, cur, t, rfl, hg, hn, hc⟩
  · omega
  · obtain ⟨x, hx, hcx⟩ := hc i hi
    refine ⟨g, x, rfl, hx, by rw [cell_of_row w g i cur t (0, 0) hg]; exact hcx, frozen_of_row w g i cur t hg, fun y hy => .inr ⟨g, cur.setIfInBounds i (.int .u8 (y : Int)), t, rfl, ?_, by simpa using hn, fun j hj => ?_⟩⟩
    · simp [World.setCell, Array.getElem?_modify, hg]
    · by_cases e : j = i
      · subst e
        exact ⟨y, hy, by rw [Array.getElem?_setIfInBounds, if_pos rfl, if_pos (by omega)]⟩
      · obtain ⟨z, hz, hcz⟩ := hc j hj
        exact ⟨z, hz, by rw [Array.getElem?_setIfInBounds_ne (by omega)]; exact hcz⟩
theorem Live.turn {w w' : World} {A : Option Addr} {n : Nat} {F : Nat → Prop} (h : Live w A n) (t : Turn F w w') (hs : ∀ g, Blk A g → ¬ F g) : Live w' A n := by
  rcases h with h0 | ⟨g, cur, t', rfl, hg, r⟩
  · exact .inl h0
  · refine .inr ⟨g, cur, t', rfl, (t.block g ?_ (hs g (blk_some.2 rfl))).trans hg, r⟩
    rcases Nat.lt_or_ge g w.heap.size with h1 | h1
    · exact h1
    · rw [Array.getElem?_eq_none h1] at hg; cases hg
set_option maxRecDepth 100000 in
set_option maxHeartbeats 16000000 in
theorem clones_law (A : Option Addr) (n c : Nat) (l : List Ent) (k : Nat) (Ax : Option Addr) (m cx : Nat) (xs : List Nat) (w : World) (hx : AE w A n l) (hn : n ≤ maxLen) (hk : k < 256) (hd : BR w Ax m xs) :
    Calls Try.prog 9 #[.slice A n c, .int .u8 (k : Int), .slice Ax m cx] w fun e w' => e = .returned (.bool true) ∧ Below w.heap.size w w' := by
  have HX := hide hx
  have HD := hide hd
  have HN := hide hn
  have hl := hx.len
  have hxl := hd.len
  have HDB := hide hd.2
  clear hx hd
  go_enter Try.func9, Try.ntmps9
  go_wp2_with fail
  (with_reducible refine (awake_yes _).mono ?_)
  rintro e w1 ⟨rfl, hb1⟩
  have HB1 := hide hb1
  clear hb1
  unfold maxLen at hn
  go_wp2_with fail
  obtain ⟨fb, hfb⟩ : ∃ fb, fewB l = fb := ⟨_, rfl⟩
  have HF := hide hfb
  (with_reducible refine (few_any A n c l _ (HX.out.below HB1.out) HN.out fb HF.out).mono ?_)
  rintro e w' ⟨rfl, rfl⟩
  cases fb with
  | false =>
    clear HF hfb
    go_wp2_with fail
    (with_reducible refine (awake_yes _).mono ?_)
    rintro e w2 ⟨rfl, hb2⟩
    have HB2 := hide (Below.next HB1.out hb2)
    clear hb2
    go_wp2_with fail
    go_ret
    exact ⟨rfl, HB2.out⟩
  | true =>
    have HFew := hide (fewB_iff.1 hfb)
    clear HF hfb
    by_cases hm : 500 < m
    · go_wp2_with fail
      (with_reducible refine (awake_yes _).mono ?_)
      rintro e w2 ⟨rfl, hb2⟩
      have HB2 := hide (Below.next HB1.out hb2)
      clear hb2
      go_wp2_with fail
      go_ret
      exact ⟨rfl, HB2.out⟩
    · have HMk := hide (mk_few HFew.out)
      have HOk := hide (few_ok HFew.out HX.out.kinds)
      have hN1 := few_len HFew.out
      have HE := hide (show apE l xs = 0 from apE_ok (by omega) (by omega))
      have HL2 := hide (apL_ok (k := k) HE.out)
      have HOk2 := hide (show OkE (l ++ [(k, xs)]) from HOk.out.app (OkE.one hk HDB.out (by omega)))
      have HAt := hide (show (l ++ [(k, xs)])[n]? = some (k, xs) from by rw [List.getElem?_append_right (by omega), hl, Nat.sub_self]; rfl)
      obtain ⟨N, hN⟩ : ∃ N, (jb (l ++ [(k, xs)])).length = N := ⟨_, rfl⟩
      have HLN := hide hN
      have hNb : N ≤ 65536 := by rw [← hN, jb_snoc, List.length_append, frame_len]; show _ + (xs.length + 9) ≤ _; omega
      clear hN
      go_wp2_with fail
      (with_reducible refine (made_any A n c l _ (HX.out.below HB1.out) HN.out).mono ?_)
      rintro e w2 ⟨p, q, F, G, rfl, hT⟩
      rw [HMk.out] at hT
      have HT2 := hide hT
      have HJ2 := hide hT.1
      clear hT
      go_wp2_with fail
      (with_reducible refine (jclone_any p _ _ _ _ HJ2.out).mono ?_)
      rintro e w3 ⟨z, rfl, hz, hb3⟩
      have HT3 := hide (HT2.out.below hb3)
      have HZ3 := hide (hz.low HT2.out.size)
      have HS2 := hide (show (∀ k, F k → k < w2.heap.size) ∧ (∀ k, G k → k < w2.heap.size) from ⟨HT2.out.1.lt, HT2.out.2.1.lt⟩)
      have HS3 := hide (show (∀ k, Plus Non w2 w3 k → w2.heap.size ≤ k ∧ k < w3.heap.size) from fun k hk => by rcases hk with hk | hk; exact hk.elim; exact hk)
      have h23 : w2.heap.size ≤ w3.heap.size := hb3.size
      have h12 : w1.heap.size ≤ w2.heap.size := HT2.out.size
      have HD3 := hide (HD.out.below (Below.next HB1.out HT3.out.2.2.2))
      clear hz hb3 HT2 HJ2
      generalize Plus Non w2 w3 = Fc at *
      have F3 : Below w3.heap.size w3 (w3.alloc (.cells #[] 5)) := (Below.refl _ _).alloc (Nat.le_refl _) _
      go_wp2_with (at_builtin; refine wpList_append_rl _ rfl _ _ 31 rfl w3.heap.size 5 .u8 1 Try.underlying31 u8_info _ _ _ [] rfl (RB.new w3 (Nat.le_refl _)) Ax m cx xs rfl (HD3.out.below F3).1 (by omega) m (by omega) (by omega) (by simp) ?_; intro Ao co w4 hrow4 hbel4 hsz4)
      have hb4 : Below w3.heap.size w3 w4 := F3.trans hbel4
      have HO4 := hide (show RB w4 w3.heap.size Ao m co xs from hrow4)
      have HT4 := hide (HT3.out.below hb4)
      have HZ4 := hide (HZ3.out.below hb4)
      have HOB := hide (owns_blk hrow4)
      have HOR := hide (RB.br HO4.out HDB.out)
      have h34 : w3.heap.size ≤ w4.heap.size := hb4.size
      have hs14 : w1.heap.size ≤ w4.heap.size := HT4.out.size
      clear hrow4 hbel4 hsz4 hb4 F3 HT3 HZ3 HD3
      go_wp2_with fail
      (with_reducible refine (putc_any z w1.heap.size Fc l _ HZ4.out hs14 k hk Ao m co xs HOR.out (by unfold maxLen; omega)).mono ?_)
      rintro e w5 ⟨rfl, hz5, ht5⟩
      rw [HL2.out] at hz5
      rw [HE.out]
      have HZ5 := hide hz5
      have h45 : w4.heap.size ≤ w5.heap.size := ht5.size
      have SF := hide (show Sep F Fc from fun k h1 h2 => by have := HS2.out.1 k h1; have := HS3.out k h2; omega)
      have SG := hide (show Sep G Fc from fun k h1 h2 => by have := HS2.out.2 k h1; have := HS3.out k h2; omega)
      have HJ5 := hide (HT4.out.1.turn ht5 SF.out)
      have HR5 := hide (HT4.out.2.1.turn ht5 SG.out)
      have HB5 := hide (ht5.onto HT4.out.2.2.2 fun k hk => (HZ4.out.rng k hk).1)
      have HV5 := hide ((Live.of HO4.out HDB.out).turn ht5 (fun g hg h => by have := HOB.out g hg; have := HS3.out g h; omega))
      have HSO := hide (show Sep (Plus Fc w4 w5) (Blk Ao) from fun g h1 h2 => by
        have := HOB.out g h2
        rcases h1 with h1 | h1
        · have := HS3.out g h1; omega
        · omega)
      have HSG := hide (show Sep G (Blk Ao) from fun g h1 h2 => by have := HOB.out g h2; have := HS2.out.2 g h1; omega)
      have HSZ := hide (show Sep (Plus Fc w4 w5) G from fun g h1 h2 => by
        have := HS2.out.2 g h2
        rcases h1 with h1 | h1
        · have := HS3.out g h1; omega
        · omega)
      have hB15 : w1.heap.size ≤ w5.heap.size := HB5.out.size
      have HOBA := hide (show ∀ g, Blk Ao g → w1.heap.size ≤ g from fun g hg => by have := HOB.out g hg; omega)
      clear hz5 ht5 HT4 HZ4 HO4 HOR SF SG HL2
      generalize Plus Fc w4 w5 = Fz at *
      go_wp2_with fail
      (with_reducible refine (samej_any p q _ _ _ _ _ _ HJ5.out HR5.out).mono ?_)
      rintro e w6 ⟨rfl, hb6⟩
      have h56 : w5.heap.size ≤ w6.heap.size := hb6.size
      have HR6 := hide (HR5.out.below hb6)
      have HZ6 := hide (HZ5.out.below hb6)
      have HB6 := hide (Below.next HB5.out hb6)
      have HV6 := hide (HV5.out.turn (Turn.of (F := Non) hb6) (fun _ _ => id))
      clear hb6 HJ5 HR5 HZ5 HB5 HV5
      go_wp2_with fail
      (with_reducible refine (jbytes_any z _ _ _ _ HZ6.out N HLN.out).mono ?_)
      rintro e w7 ⟨Ab, cb, rfl, hr7, hb7⟩
      have HBB := hide (owns_blk hr7)
      have HL7 := hide (Live.of hr7 (jb_by HOk2.out))
      have HR7 := hide (HR6.out.below hb7)
      have HZ7 := hide (HZ6.out.below hb7)
      have HB7 := hide (Below.next HB6.out hb7)
      have HV7 := hide (HV6.out.turn (Turn.of (F := Non) hb7) (fun _ _ => id))
      have HS6 := hide (show (∀ k, Fz k → k < w6.heap.size) ∧ (∀ k, G k → k < w6.heap.size) ∧ (∀ g, Blk Ao g → g < w6.heap.size) ∧ w1.heap.size ≤ w6.heap.size from ⟨HZ6.out.lt, HR6.out.lt, fun g hg => by have := HOB.out g hg; omega, HB6.out.size⟩)
      clear hr7 hb7 HR6 HZ6 HB6 HV6
      go_wp2_with fail
      go_loopw [12] (fun v w8 => ∃ i : Nat, v = .int .i64 (i : Int) ∧ i ≤ N ∧ Hid (Turn (Blk Ab) w7 w8) ∧ Hid (Live w8 Ab N)) (fun v _ => N - (intOf v).toNat)
      case atStart => exact ⟨0, rfl, by omega, hide (Turn.refl _ _), HL7⟩
      case round =>
        obtain ⟨w8, hwn⟩ : ∃ x, x = wr := ⟨_, rfl⟩
        subst hwn
        obtain ⟨i, rfl, hi, HTu, HLi⟩ := hrel
        by_cases hlt : i < N
        · obtain ⟨g, x, eA, hx256, c0, f0, hst⟩ := HLi.out.at_ hlt
          have HST := hide hst
          obtain ⟨y, hy⟩ : ∃ y, (x + 1) % 256 = y := ⟨_, rfl⟩
          have hy2 : ((x : Int) + 1) % 256 = (y : Int) := by omega
          have hyb : y < 256 := by omega
          have i1 : (i : Int) < (N : Int) := by omega
          have i2 : (0 : Int) ≤ (i : Int) := by omega
          subst eA
          clear hst hy
          go_wp2_with fail
          go_roundw
          case measure => simp [intOf]; omega
          case rel => exact ⟨i + 1, by go_num, by omega, hide (HTu.out.set i _ (blk_some.2 rfl)), hide (HST.out y hyb)⟩
        · obtain rfl : N = i := by omega
          have d1 : decide ((N : Int) < (N : Int)) = false := decide_eq_false (by omega)
          have HR8 := hide (HR7.out.turn HTu.out (fun g h1 h2 => by have := HS6.out.2.1 g h1; have := HBB.out g h2; omega))
          have HZ8 := hide (HZ7.out.turn HTu.out (fun g h1 h2 => by have := HS6.out.1 g h1; have := HBB.out g h2; omega))
          have HV8 := hide (HV7.out.turn HTu.out (fun g h1 h2 => by have := HS6.out.2.2.1 g h1; have := HBB.out g h2; omega))
          have HB8 := hide (HTu.out.onto HB7.out (fun g h2 => by have := HS6.out.2.2.2; have := HBB.out g h2; omega))
          clear HR7 HZ7 HV7 HB7 HTu HLi HL7
          go_wp2_with fail
          go_loopw [13] (fun v w9 => ∃ i : Nat, v = .int .i64 (i : Int) ∧ i ≤ m ∧ Hid (Turn (Blk Ao) w8 w9) ∧ Hid (Live w9 Ao m)) (fun v _ => m - (intOf v).toNat)
          case atStart => exact ⟨0, rfl, by omega, hide (Turn.refl _ _), HV8⟩
          case round =>
            obtain ⟨w9, hwn⟩ : ∃ x, x = wr := ⟨_, rfl⟩
            subst hwn
            obtain ⟨i, rfl, hi, HTu9, HLi9⟩ := hrel
            by_cases hlt : i < m
            · obtain ⟨g, x, eA, hx256, c0, f0, hst⟩ := HLi9.out.at_ hlt
              have HST := hide hst
              obtain ⟨y, hy⟩ : ∃ y, (x + 1) % 256 = y := ⟨_, rfl⟩
              have hy2 : ((x : Int) + 1) % 256 = (y : Int) := by omega
              have hyb : y < 256 := by omega
              have i1 : (i : Int) < (m : Int) := by omega
              have i2 : (0 : Int) ≤ (i : Int) := by omega
              subst eA
              clear hst hy
              go_wp2_with fail
              go_roundw
              case measure => simp [intOf]; omega
              case rel => exact ⟨i + 1, by go_num, by omega, hide (HTu9.out.set i _ (blk_some.2 rfl)), hide (HST.out y hyb)⟩
            · obtain rfl : m = i := by omega
              have d1 : decide ((m : Int) < (m : Int)) = false := decide_eq_false (by omega)
              have HR9 := hide (HR8.out.turn HTu9.out HSG.out)
              have HZ9 := hide (HZ8.out.turn HTu9.out HSO.out)
              have HB9 := hide (HTu9.out.onto HB8.out HOBA.out)
              clear HR8 HZ8 HV8 HB8 HTu9 HLi9
              go_wp2_with fail
              (with_reducible refine (ent_at z _ _ _ _ HZ9.out n (k, xs) HAt.out).mono ?_)
              rintro e w10 ⟨Ad, nd, cd, rfl, hr10, hy10, hb10⟩
              have HDB10 := hide (owns_blk hr10)
              have HL10 := hide (Live.of hr10 hy10)
              have HR10 := hide (HR9.out.below hb10)
              have HZ10 := hide (HZ9.out.below hb10)
              have HB10 := hide (Below.next HB9.out hb10)
              have HS9 := hide (show (∀ k, Fz k → k < w9.heap.size) ∧ (∀ k, G k → k < w9.heap.size) ∧ w1.heap.size ≤ w9.heap.size from ⟨HZ9.out.lt, HR9.out.lt, HB9.out.size⟩)
              have hndl : nd ≤ 8192 := by have e1 := Row.len hr10; have e2 : xs.length = nd := e1; omega
              clear hr10 hy10 hb10 HR9 HZ9 HB9
              go_wp2_with fail
              go_loopw [17] (fun v w11 => ∃ i : Nat, v = .int .i64 (i : Int) ∧ i ≤ nd ∧ Hid (Turn (Blk Ad) w10 w11) ∧ Hid (Live w11 Ad nd)) (fun v _ => nd - (intOf v).toNat)
              case atStart => exact ⟨0, rfl, by omega, hide (Turn.refl _ _), HL10⟩
              case round =>
                obtain ⟨w11, hwn⟩ : ∃ x, x = wr := ⟨_, rfl⟩
                subst hwn
                obtain ⟨i, rfl, hi, HTu11, HLi11⟩ := hrel
                by_cases hlt : i < nd
                · obtain ⟨g, x, eA, hx256, c0, f0, hst⟩ := HLi11.out.at_ hlt
                  have HST := hide hst
                  obtain ⟨y, hy⟩ : ∃ y, (x + 1) % 256 = y := ⟨_, rfl⟩
                  have hy2 : ((x : Int) + 1) % 256 = (y : Int) := by omega
                  have hyb : y < 256 := by omega
                  have i1 : (i : Int) < (nd : Int) := by omega
                  have i2 : (0 : Int) ≤ (i : Int) := by omega
                  subst eA
                  clear hst hy
                  go_wp2_with fail
                  go_roundw
                  case measure => simp [intOf]; omega
                  case rel => exact ⟨i + 1, by go_num, by omega, hide (HTu11.out.set i _ (blk_some.2 rfl)), hide (HST.out y hyb)⟩
                · obtain rfl : nd = i := by omega
                  have d1 : decide ((nd : Int) < (nd : Int)) = false := decide_eq_false (by omega)
                  have HR11 := hide (HR10.out.turn HTu11.out (fun g h1 h2 => by have := HS9.out.2.1 g h1; have := HDB10.out g h2; omega))
                  have HZ11 := hide (HZ10.out.turn HTu11.out (fun g h1 h2 => by have := HS9.out.1 g h1; have := HDB10.out g h2; omega))
                  have HB11 := hide (HTu11.out.onto HB10.out (fun g h2 => by have := HS9.out.2.2; have := HDB10.out g h2; omega))
                  have hs11 : w1.heap.size ≤ w11.heap.size := HB11.out.size
                  have HD11 := hide (HD.out.below (Below.next HB1.out HB11.out))
                  clear HR10 HZ10 HB10 HTu11 HLi11 HL10
                  go_wp2_with fail
                  (with_reducible refine (rput_any q w1.heap.size G l _ HR11.out hs11 k hk Ax m cx xs HD11.out (by unfold maxLen; omega)).mono ?_)
                  rintro e w12 ⟨rfl, hr12, ht12⟩
                  rw [apL_ok HE.out] at hr12
                  have HR12 := hide hr12
                  have HZ12 := hide (HZ11.out.turn ht12 HSZ.out)
                  have HB12 := hide (ht12.onto HB11.out fun k hk => (HR11.out.rng k hk).1)
                  clear hr12 ht12 HR11 HZ11 HB11
                  go_wp2_with fail
                  (with_reducible refine (samej_any z q _ _ _ _ _ _ HZ12.out HR12.out).mono ?_)
                  rintro e w13 ⟨rfl, hb13⟩
                  have HB13 := hide (Below.next (Below.next HB1.out HB12.out) hb13)
                  clear hb13
                  go_wp2_with fail
                  go_ret
                  exact ⟨rfl, HB13.out⟩
end Go.Proofs.Ytjmpnpflmdpdkaa
