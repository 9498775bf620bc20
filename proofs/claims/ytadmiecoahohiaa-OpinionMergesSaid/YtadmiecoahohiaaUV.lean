/- Merge, of the program. -/
import Derived.Test.YtadmiecoahohiaaUP
namespace Go.Proofs.Ytadmiecoahohiaa
open Go Go.RowKit Go.Lib
/-- two lists and an error, as results -/
def GivM (w : World) (R : List Ent × List Int × Int) (e : Ending) (w' : World) : Prop := ∃ A c A' c', e = .returned (.tuple #[.slice A R.1.length c, .slice A' R.2.1.length c', .int .i64 R.2.2]) ∧ Ow eE w' w.heap.size A R.1.length c R.1 ∧ Ow eI w' w.heap.size A' R.2.1.length c' R.2.1 ∧ Below w.heap.size w w'
theorem GivM.none {w w' : World} {R : List Ent × List Int × Int} {v : Value} (er : Int) (hR : R = ([], [], er)) (hv : v = .tuple #[.slice none 0 0, .slice none 0 0, .int .i64 er]) (hb : Below w.heap.size w w') : GivM w R (.returned v) w' := by
  subst hR
  subst hv
  exact ⟨Option.none, 0, Option.none, 0, rfl, Ow.nil_ _ _, Ow.nil_ _ _, hb⟩
theorem merR_no {o a b : List Ent} (h : vE o = false ∨ vE a = false ∨ vE b = false) : merR o a b = ([], [], 1) := by
  unfold merR
  rcases h with h | h | h
  · rw [h]; rfl
  · rw [h]; cases vE o <;> rfl
  · rw [h]; cases vE o <;> cases vE a <;> rfl
theorem merR_ok {o a b : List Ent} (ho : vE o = true) (ha : vE a = true) (hb : vE b = true) : merR o a b = if (meL o a b).length ≤ 64 ∧ (meB o a b).length ≤ 64 then (meL o a b, meB o a b, 0) else ([], [], 6) := by unfold merR; rw [ho, ha, hb]; rfl
theorem fl_three (A0 : Option Addr) (n0 c0 : Nat) (o : List Ent) (A1 : Option Addr) (n1 c1 : Nat) (a : List Ent) (A2 : Option Addr) (n2 c2 : Nat) (b : List Ent) : fl [⟨A0, n0, c0, o⟩, ⟨A1, n1, c1, a⟩, ⟨A2, n2, c2, b⟩] = o.map Ent.k ++ (a.map Ent.k ++ b.map Ent.k) := by unfold fl; simp
theorem ll_three {w : World} {g : Nat} {t : TypeId} {A0 : Option Addr} {n0 c0 : Nat} {o : List Ent} {A1 : Option Addr} {n1 c1 : Nat} {a : List Ent} {A2 : Option Addr} {n2 c2 : Nat} {b : List Ent} (hg : Box w g #[.slice A0 n0 c0, .slice A1 n1 c1, .slice A2 n2 c2] t) (ho : SL eE w A0 n0 o) (ha : SL eE w A1 n1 a) (hb : SL eE w A2 n2 b) : LL w g [⟨A0, n0, c0, o⟩, ⟨A1, n1, c1, a⟩, ⟨A2, n2, c2, b⟩] :=
  ⟨hg.lt, fun j x hx => by
    match j, hx with
    | 0, hx => injection hx with hx; subst hx; exact ⟨hg.at_ 0, ho⟩
    | 1, hx => injection hx with hx; subst hx; exact ⟨hg.at_ 1, ha⟩
    | 2, hx => injection hx with hx; subst hx; exact ⟨hg.at_ 2, hb⟩
    | j + 3, hx => simp at hx⟩
theorem sep_l {F G H : Nat → Prop} {w w' : World} (hs : Sep F G) (hF : ∀ g, H g → F g ∨ (w.heap.size ≤ g ∧ g < w'.heap.size)) (hG : ∀ g, G g → g < w.heap.size) : Sep H G := fun k hk hg => by
  rcases hF k hk with h | h
  · exact hs k h hg
  · have := hG k hg; omega
theorem sep_r {F G H : Nat → Prop} {w w' : World} (hs : Sep F G) (hF : ∀ g, H g → G g ∨ (w.heap.size ≤ g ∧ g < w'.heap.size)) (hG : ∀ g, F g → g < w.heap.size) : Sep F H := (sep_l hs.symm hF hG).symm
theorem Ow.apart {α : Type} {e : En α} {w w' : World} {B n c : Nat} {A : Option Addr} {ys : List α} {F : Nat → Prop} (h : Ow e w B A n c ys) (t : Turn F w w') (hs : Sep F (Blk A)) : Ow e w' B A n c ys := h.turn t fun g hg hf => hs g hf hg
theorem filterB_next {G : Int → Bool} {K : List Int} {j : Nat} {k : Int} (h : K[j]? = some k) : (K.take (j + 1)).filter G = (K.take j).filter G ++ (if G k = true then [k] else []) := filter_next h
def meF (o a b : List Ent) (k : Int) : Sd := me1 (at' o k) (at' a k) (at' b k)
def meG (o a b : List Ent) (k : Int) : Bool := bad1 (at' o k) (at' a k) (at' b k)

set_option maxHeartbeats 32000000 in
set_option maxRecDepth 100000 in
theorem merge_any (A0 : Option Addr) (n0 c0 : Nat) (o : List Ent) (A1 : Option Addr) (n1 c1 : Nat) (a : List Ent) (A2 : Option Addr) (n2 c2 : Nat) (b : List Ent) (w : World) (ho : SL eE w A0 n0 o) (ha : SL eE w A1 n1 a) (hb : SL eE w A2 n2 b) (h0 : n0 ≤ 200) (h1 : n1 ≤ 200) (h2 : n2 ≤ 200) :
    Calls Try.prog 28 #[.slice A0 n0 c0, .slice A1 n1 c1, .slice A2 n2 c2] w (GivM w (merR o a b)) := by
  have HX0 := hide ho
  have HX1 := hide ha
  have HX2 := hide hb
  clear ho ha hb
  cases hv0 : vE o with
  | false =>
    have HR := hide (merR_no (a := a) (b := b) (.inl hv0))
    have HV0 := hide hv0
    clear hv0
    go_enter Try.func28, Try.ntmps28
    go_wp2_with fail
    refine (valid_any A0 n0 c0 o w HX0.out (by omega) false HV0.out).mono ?_
    rintro e w1 ⟨rfl, g1⟩
    have G1 := hide (g1)
    clear g1
    go_wp2_with fail
    go_ret3
    exact GivM.none 1 HR.out rfl G1.out.below
  | true =>
    cases hv1 : vE a with
    | false =>
      have HR := hide (merR_no (o := o) (b := b) (.inr (.inl hv1)))
      have HV0 := hide hv0
      have HV1 := hide hv1
      clear hv0 hv1
      go_enter Try.func28, Try.ntmps28
      go_wp2_with fail
      refine (valid_any A0 n0 c0 o w HX0.out (by omega) true HV0.out).mono ?_
      rintro e w1 ⟨rfl, g1⟩
      have G1 := hide (g1)
      clear g1
      go_wp2_with fail
      refine (valid_any A1 n1 c1 a w1 (HX1.out.keep G1.out.below) (by omega) false HV1.out).mono ?_
      rintro e w2 ⟨rfl, g2⟩
      have G2 := hide ((G1.out.trans g2))
      clear g2
      go_wp2_with fail
      go_ret3
      exact GivM.none 1 HR.out rfl G2.out.below
    | true =>
      cases hv2 : vE b with
      | false =>
        have HR := hide (merR_no (o := o) (a := a) (.inr (.inr hv2)))
        have HV0 := hide hv0
        have HV1 := hide hv1
        have HV2 := hide hv2
        clear hv0 hv1 hv2
        go_enter Try.func28, Try.ntmps28
        go_wp2_with fail
        refine (valid_any A0 n0 c0 o w HX0.out (by omega) true HV0.out).mono ?_
        rintro e w1 ⟨rfl, g1⟩
        have G1 := hide (g1)
        clear g1
        go_wp2_with fail
        refine (valid_any A1 n1 c1 a w1 (HX1.out.keep G1.out.below) (by omega) true HV1.out).mono ?_
        rintro e w2 ⟨rfl, g2⟩
        have G2 := hide ((G1.out.trans g2))
        clear g2
        go_wp2_with fail
        refine (valid_any A2 n2 c2 b w2 (HX2.out.keep G2.out.below) (by omega) false HV2.out).mono ?_
        rintro e w3 ⟨rfl, g3⟩
        have G3 := hide ((G2.out.trans g3))
        clear g3
        go_wp2_with fail
        go_ret3
        exact GivM.none 1 HR.out rfl G3.out.below
      | true =>
        have HR := hide (merR_ok hv0 hv1 hv2)
        have HV0 := hide hv0
        have HV1 := hide hv1
        have HV2 := hide hv2
        clear hv0 hv1 hv2
        go_enter Try.func28, Try.ntmps28
        go_wp2_with fail
        refine (valid_any A0 n0 c0 o w HX0.out (by omega) true HV0.out).mono ?_
        rintro e w1 ⟨rfl, g1⟩
        have G1 := hide (g1)
        clear g1
        go_wp2_with fail
        refine (valid_any A1 n1 c1 a w1 (HX1.out.keep G1.out.below) (by omega) true HV1.out).mono ?_
        rintro e w2 ⟨rfl, g2⟩
        have G2 := hide ((G1.out.trans g2))
        clear g2
        go_wp2_with fail
        refine (valid_any A2 n2 c2 b w2 (HX2.out.keep G2.out.below) (by omega) true HV2.out).mono ?_
        rintro e w3 ⟨rfl, g3⟩
        have G3 := hide ((G2.out.trans g3))
        clear g3
        go_wp2_with fail
        have hK : kset (fl [⟨A0, n0, c0, o⟩, ⟨A1, n1, c1, a⟩, ⟨A2, n2, c2, b⟩]) = meK o a b := by rw [fl_three]; rfl
        have hfl : (fl [⟨A0, n0, c0, o⟩, ⟨A1, n1, c1, a⟩, ⟨A2, n2, c2, b⟩]).length ≤ 900 := by rw [fl_three, List.length_append, List.length_append, List.length_map, List.length_map, List.length_map, HX0.out.1, HX1.out.1, HX2.out.1]; omega
        have hNK : (meK o a b).length ≤ 600 := by
          refine Nat.le_trans (len_kset _) ?_
          rw [List.length_append, List.length_append, List.length_map, List.length_map, List.length_map, HX0.out.1, HX1.out.1, HX2.out.1]
          omega
        have HCK := hide (keysOf_any w3.heap.size 3 3 [⟨A0, n0, c0, o⟩, ⟨A1, n1, c1, a⟩, ⟨A2, n2, c2, b⟩] (w3.alloc (.cells #[.slice A0 n0 c0, .slice A1 n1 c1, .slice A2 n2 c2] 22)) (ll_three (newE w3 _ _ rfl) ((HX0.out.keep G3.out.below).keep ((Below.refl _ _).alloc (Nat.le_refl _) _)) ((HX1.out.keep G3.out.below).keep ((Below.refl _ _).alloc (Nat.le_refl _) _)) ((HX2.out.keep G3.out.below).keep ((Below.refl _ _).alloc (Nat.le_refl _) _))) rfl (by decide) hfl)
        rw [hK] at HCK
        have HKD := hide (show meL o a b = mkE' (meK o a b) (meF o a b) from rfl)
        have HKB := hide (show meB o a b = (meK o a b).filter (meG o a b) from rfl)
        generalize meK o a b = K at *
        clear hK hfl
        refine HCK.out.mono ?_
        rintro e w4 ⟨AK, cK, rfl, ok, bk⟩
        have HKS := hide ok.sl
        have B4 := hide (show Below w.heap.size w w4 from Below.next (Below.allocS G3.out.below _) bk)
        have HLK := hide (rfl : K.length = K.length)
        generalize hnk : K.length = NK at *
        clear ok bk HCK HLK
        have HNK := hide hnk
        clear hnk
        have HX0 := hide (HX0.out.keep B4.out)
        have HX1 := hide (HX1.out.keep B4.out)
        have HX2 := hide (HX2.out.keep B4.out)
        have HV0 := hide (vE_iff.1 HV0.out).2
        have HV1 := hide (vE_iff.1 HV1.out).2
        have HV2 := hide (vE_iff.1 HV2.out).2
        have mixed : Try.prog.follows Departure.mixedOrders = true := by kernel_rfl
        go_wp2_with fail
        go_loopw [9, 10, 34] (fun s s' i wr => ∃ (j m q : Nat) (A A' : Option Addr) (cc cc' : Nat) (zs : List Ent) (bs : List Int), i = .int .i64 (j : Int) ∧ j ≤ NK ∧ s = .slice A m cc ∧ s' = .slice A' q cc' ∧ m ≤ j ∧ q ≤ j ∧ Hid (mkE' (K.take j) (meF o a b) = zs ∧ zs.length = m) ∧ Hid ((K.take j).filter (meG o a b) = bs ∧ bs.length = q) ∧ Hid (Ow eE wr w4.heap.size A m cc zs) ∧ Hid (Ow eI wr w4.heap.size A' q cc' bs) ∧ Hid (Sep (Blk A) (Blk A')) ∧ Hid (Below w4.heap.size w4 wr)) (fun _ _ i _ => NK - (RowKit.intOf i).toNat)
        case atStart => exact ⟨0, 0, 0, none, none, 0, 0, [], [], rfl, Nat.zero_le _, rfl, rfl, Nat.le_refl _, Nat.le_refl _, hide ⟨rfl, rfl⟩, hide ⟨rfl, rfl⟩, hide (Ow.nil_ _ _), hide (Ow.nil_ _ _), hide (fun k hk _ => blk_none hk), hide (Below.refl _ _)⟩
        case round =>
          obtain ⟨j, m, q, A, A', cc, cc', zs, bs, rfl, hj, rfl, rfl, hmj, hqj, HZ, HQ, HO, HI, HS, HB⟩ := hrel
        
          by_cases hlt : j < NK
          · obtain ⟨bk, ok, k, rfl, hl, hk, ck0⟩ := (HKS.out.keep HB.out).atI hlt
            have ck : wr.cell? ⟨bk, ok + j, none⟩ = some (.int .i64 k) := by rw [show ok + j = ok + j * 1 by omega]; exact ck0
            have d0 : decide ((j : Int) < (NK : Int)) = true := decide_eq_true (by omega)
            have a1 : (0 : Int) ≤ (j : Int) := by omega
            have a2 : (j : Int) < (NK : Int) := by omega
            obtain ⟨f0, hf0⟩ : ∃ f, at' o k = f := ⟨_, rfl⟩
            obtain ⟨f1, hf1⟩ : ∃ f, at' a k = f := ⟨_, rfl⟩
            obtain ⟨f2, hf2⟩ : ∃ f, at' b k = f := ⟨_, rfl⟩
            obtain ⟨z, hz⟩ : ∃ z, me1 f0 f1 f2 = z := ⟨_, rfl⟩
            obtain ⟨r, hr⟩ : ∃ r, (!bad1 f0 f1 f2) = r := ⟨_, rfl⟩
            have HF0 := hide hf0
            have HF1 := hide hf1
            have HF2 := hide hf2
            have HZZ := hide hz
            have HRR := hide hr
            have HFK := hide (show meF o a b k = z by unfold meF; rw [hf0, hf1, hf2, hz])
            have HGK := hide (show meG o a b k = !r by unfold meG; rw [hf0, hf1, hf2, ← hr, Bool.not_not])
            have HZN0 := hide (mkE_next hk (meF o a b))
            have HQN0 := hide (filterB_next (G := meG o a b) hk)
            clear ck0 hk hf0 hf1 hf2 hz hr
            go_wp2_with fail
            refine (side_any A0 n0 c0 o k wr (HX0.out.keep HB.out) HV0.out (by omega) f0 HF0.out).mono ?_
            rintro e w5 ⟨rfl, g5⟩
            have HB5 := hide (Below.next HB.out g5.below)
            have G5 := hide g5
            clear g5 ck
            go_wp2_with fail
            refine (side_any A1 n1 c1 a k w5 (HX1.out.keep HB5.out) HV1.out (by omega) f1 HF1.out).mono ?_
            rintro e w6 ⟨rfl, g6⟩
            have HB6 := hide (Below.next HB5.out g6.below)
            have G6 := hide (G5.out.trans g6)
            clear g6
            go_wp2_with fail
            refine (side_any A2 n2 c2 b k w6 (HX2.out.keep HB6.out) HV2.out (by omega) f2 HF2.out).mono ?_
            rintro e w7 ⟨rfl, g7⟩
            have HB7 := hide (Below.next HB6.out g7.below)
            have G7 := hide (G6.out.trans g7)
            clear g7
            go_wp2_with fail
            refine (merge1_any f0 f1 f2 w7 z HZZ.out r HRR.out).mono ?_
            rintro e w8 ⟨rfl, g8⟩
            have HB7 := hide (Below.next HB7.out g8.below)
            have HO7 := hide (HO.out.keep (G7.out.trans g8).below)
            have HI7 := hide (HI.out.keep (G7.out.trans g8).below)
            clear g8 HB5 HB6 G5 G6 G7 HF0 HF1 HF2 HZZ HRR HO HI
            obtain ⟨zv, zi⟩ := z
            cases zi
            · cases r
              · skip
                have HB8 := hide (Below.allocS HB7.out (.cells #[.int .i64 zv, .bool false] 49))
                have HO8 := hide (show Ow eE (w8.alloc (.cells #[.int .i64 zv, .bool false] 49)) w4.heap.size A m cc zs from HO7.out.keep ((Below.refl _ _).alloc (Nat.le_refl _) _))
                have HI8 := hide (show Ow eI (w8.alloc (.cells #[.int .i64 zv, .bool false] 49)) w4.heap.size A' q cc' bs from HI7.out.keep ((Below.refl _ _).alloc (Nat.le_refl _) _))
                have HQN := hide (show (K.take (j + 1)).filter (meG o a b) = bs ++ [k] by rw [HQN0.out, HQ.out.1, if_pos (by rw [HGK.out]; rfl)])
                have HZN := hide (show mkE' (K.take (j + 1)) (meF o a b) = zs by rw [HZN0.out, HZ.out.1, HFK.out]; exact List.append_nil _)
                obtain rfl : bs.length = q := HQ.out.2
                have HO9 := hide (show Ow eE ((w8.alloc (.cells #[.int .i64 zv, .bool false] 49)).alloc (.cells #[.int .i64 k] 3)) w4.heap.size A m cc zs from HO8.out.keep ((Below.refl _ _).alloc (Nat.le_refl _) _))
                have HI9 := hide (show Ow eI ((w8.alloc (.cells #[.int .i64 zv, .bool false] 49)).alloc (.cells #[.int .i64 k] 3)) w4.heap.size A' bs.length cc' bs from HI8.out.keep ((Below.refl _ _).alloc (Nat.le_refl _) _))
                have HN := hide (litI (g := w8.heap.size + 1) (x := k) (newE (w8.alloc (.cells #[.int .i64 zv, .bool false] 49)) #[.int .i64 k] 3 (by simp)))
                have HB9 := hide (Below.allocS HB8.out (.cells #[.int .i64 k] 3))
                go_wp2_with (at_builtin; refine wpList_app_ow _ rfl _ _ 37 rfl w4.heap.size 3 _ 1 8 Try.underlying37 infoI1 rfl (by decide) _ _ _ _ rfl HI9.out _ _ _ (eI.enc k) rfl rfl (fun _ => ⟨_, rfl, HN.out⟩) (fun uu hu => eI.one k uu hu) (by decide) (by omega) HB9.out.size ?_; intro A4 c4 w4 r1 r2 r3)
                have h1 := ow_app (e := eI) (x := k) r1
                rw [List.length_append] at h1
                have HI10 := hide h1
                have HO10 := hide (HO9.out.apart r2 HS.out.symm)
                have HS10 := hide (sep_r HS.out r3 (fun g hg => (HO9.out.blk g hg).2))
                have HB10 := hide (HB9.out.trans (r2.below (fun k hk => (HI9.out.blk k hk).1) HB9.out.size))
                clear r1 r2 r3 h1
                go_roundw
                case rel => exact ⟨j + 1, m, bs.length + 1, A, A4, cc, c4, zs, bs ++ [k], by go_num, by omega, rfl, rfl, by omega, by omega, hide ⟨HZN.out, HZ.out.2⟩, hide ⟨HQN.out, by rw [List.length_append]; rfl⟩, HO10, HI10, HS10, HB10⟩
                case measure => simp [RowKit.intOf]; omega
              · skip
                have HB8 := hide (Below.allocS HB7.out (.cells #[.int .i64 zv, .bool false] 49))
                have HO8 := hide (show Ow eE (w8.alloc (.cells #[.int .i64 zv, .bool false] 49)) w4.heap.size A m cc zs from HO7.out.keep ((Below.refl _ _).alloc (Nat.le_refl _) _))
                have HI8 := hide (show Ow eI (w8.alloc (.cells #[.int .i64 zv, .bool false] 49)) w4.heap.size A' q cc' bs from HI7.out.keep ((Below.refl _ _).alloc (Nat.le_refl _) _))
                have HQN := hide (show (K.take (j + 1)).filter (meG o a b) = bs by rw [HQN0.out, HQ.out.1, if_neg (by rw [HGK.out]; decide)]; exact List.append_nil _)
                have HZN := hide (show mkE' (K.take (j + 1)) (meF o a b) = zs by rw [HZN0.out, HZ.out.1, HFK.out]; exact List.append_nil _)
                go_wp2_with fail
                go_roundw
                case rel => exact ⟨j + 1, m, q, A, A', cc, cc', zs, bs, by go_num, by omega, rfl, rfl, by omega, by omega, hide ⟨HZN.out, HZ.out.2⟩, hide ⟨HQN.out, HQ.out.2⟩, HO8, HI8, HS, HB8⟩
                case measure => simp [RowKit.intOf]; omega
            · cases r
              · skip
                have HB8 := hide (Below.allocS HB7.out (.cells #[.int .i64 zv, .bool true] 49))
                have HO8 := hide (show Ow eE (w8.alloc (.cells #[.int .i64 zv, .bool true] 49)) w4.heap.size A m cc zs from HO7.out.keep ((Below.refl _ _).alloc (Nat.le_refl _) _))
                have HI8 := hide (show Ow eI (w8.alloc (.cells #[.int .i64 zv, .bool true] 49)) w4.heap.size A' q cc' bs from HI7.out.keep ((Below.refl _ _).alloc (Nat.le_refl _) _))
                have HQN := hide (show (K.take (j + 1)).filter (meG o a b) = bs ++ [k] by rw [HQN0.out, HQ.out.1, if_pos (by rw [HGK.out]; rfl)])
                have HZN := hide (show mkE' (K.take (j + 1)) (meF o a b) = zs ++ [⟨k, zv⟩] by rw [HZN0.out, HZ.out.1, HFK.out]; rfl)
                obtain rfl : zs.length = m := HZ.out.2
                have HO9 := hide (show Ow eE ((w8.alloc (.cells #[.int .i64 zv, .bool true] 49)).alloc (.cells #[.int .i64 k, .int .i64 zv] 43)) w4.heap.size A zs.length cc zs from HO8.out.keep ((Below.refl _ _).alloc (Nat.le_refl _) _))
                have HI9 := hide (show Ow eI ((w8.alloc (.cells #[.int .i64 zv, .bool true] 49)).alloc (.cells #[.int .i64 k, .int .i64 zv] 43)) w4.heap.size A' q cc' bs from HI8.out.keep ((Below.refl _ _).alloc (Nat.le_refl _) _))
                have HN := hide (litE (g := w8.heap.size + 1) (x := ⟨k, zv⟩) (newE (w8.alloc (.cells #[.int .i64 zv, .bool true] 49)) #[.int .i64 k, .int .i64 zv] 43 (by simp)))
                have HB9 := hide (Below.allocS HB8.out (.cells #[.int .i64 k, .int .i64 zv] 43))
                obtain rfl : bs.length = q := HQ.out.2
                go_wp2_with (at_builtin; first | (refine wpList_app_ow _ rfl _ _ 22 rfl w4.heap.size 43 _ 2 16 Try.underlying22 infoE rfl (by decide) _ _ _ _ rfl HO9.out _ _ _ (eE.enc ⟨k, zv⟩) rfl rfl (fun _ => ⟨_, rfl, HN.out⟩) (fun uu hu => eE.one ⟨k, zv⟩ uu hu) (by decide) (by omega) HB9.out.size ?_; intro A4 c4 w4' r1 r2 r3; have h1 := ow_app (e := eE) (x := ⟨k, zv⟩) r1; rw [List.length_append] at h1; have HO10 := hide h1; have HI10 := hide (HI9.out.apart r2 HS.out); have HS10 := hide (sep_l HS.out r3 (fun g hg => (HI9.out.blk g hg).2)); have HB10 := hide (HB9.out.trans (r2.below (fun k hk => (HO9.out.blk k hk).1) HB9.out.size)); have HI11 := hide (show Ow eI (w4'.alloc (.cells #[.int .i64 k] 3)) w4.heap.size A' bs.length cc' bs from HI10.out.keep ((Below.refl _ _).alloc (Nat.le_refl _) _)); have HO11 := hide (HO10.out.keep ((Below.refl _ _).alloc (Nat.le_refl _) (.cells #[.int .i64 k] 3))); have HN2 := hide (litI (x := k) (newE w4' #[.int .i64 k] 3 rfl)); have HB11 := hide (Below.allocS HB10.out (.cells #[.int .i64 k] 3)); clear r1 r2 r3 h1) | (refine wpList_app_ow _ rfl _ _ 37 rfl w4.heap.size 3 _ 1 8 Try.underlying37 infoI1 rfl (by decide) _ _ _ _ rfl HI11.out _ _ _ (eI.enc k) rfl rfl (fun _ => ⟨_, rfl, HN2.out⟩) (fun uu hu => eI.one k uu hu) (by decide) (by omega) HB11.out.size ?_; intro A5 c5 w5' p1 p2 p3))
                have h1 := ow_app (e := eI) (x := k) p1
                rw [List.length_append] at h1
                have HI12 := hide h1
                have HO12 := hide (HO11.out.apart p2 HS10.out.symm)
                have HS12 := hide (sep_r HS10.out p3 (fun g hg => (HO11.out.blk g hg).2))
                have HB12 := hide (HB11.out.trans (p2.below (fun k hk => (HI11.out.blk k hk).1) HB11.out.size))
                clear p1 p2 p3 h1
                go_roundw
                case rel => exact ⟨j + 1, zs.length + 1, bs.length + 1, A4, A5, c4, c5, zs ++ [⟨k, zv⟩], bs ++ [k], by go_num, by omega, rfl, rfl, by omega, by omega, hide ⟨HZN.out, by rw [List.length_append]; rfl⟩, hide ⟨HQN.out, by rw [List.length_append]; rfl⟩, HO12, HI12, HS12, HB12⟩
                case measure => simp [RowKit.intOf]; omega
              · skip
                have HB8 := hide (Below.allocS HB7.out (.cells #[.int .i64 zv, .bool true] 49))
                have HO8 := hide (show Ow eE (w8.alloc (.cells #[.int .i64 zv, .bool true] 49)) w4.heap.size A m cc zs from HO7.out.keep ((Below.refl _ _).alloc (Nat.le_refl _) _))
                have HI8 := hide (show Ow eI (w8.alloc (.cells #[.int .i64 zv, .bool true] 49)) w4.heap.size A' q cc' bs from HI7.out.keep ((Below.refl _ _).alloc (Nat.le_refl _) _))
                have HQN := hide (show (K.take (j + 1)).filter (meG o a b) = bs by rw [HQN0.out, HQ.out.1, if_neg (by rw [HGK.out]; decide)]; exact List.append_nil _)
                have HZN := hide (show mkE' (K.take (j + 1)) (meF o a b) = zs ++ [⟨k, zv⟩] by rw [HZN0.out, HZ.out.1, HFK.out]; rfl)
                obtain rfl : zs.length = m := HZ.out.2
                have HO9 := hide (show Ow eE ((w8.alloc (.cells #[.int .i64 zv, .bool true] 49)).alloc (.cells #[.int .i64 k, .int .i64 zv] 43)) w4.heap.size A zs.length cc zs from HO8.out.keep ((Below.refl _ _).alloc (Nat.le_refl _) _))
                have HI9 := hide (show Ow eI ((w8.alloc (.cells #[.int .i64 zv, .bool true] 49)).alloc (.cells #[.int .i64 k, .int .i64 zv] 43)) w4.heap.size A' q cc' bs from HI8.out.keep ((Below.refl _ _).alloc (Nat.le_refl _) _))
                have HN := hide (litE (g := w8.heap.size + 1) (x := ⟨k, zv⟩) (newE (w8.alloc (.cells #[.int .i64 zv, .bool true] 49)) #[.int .i64 k, .int .i64 zv] 43 (by simp)))
                have HB9 := hide (Below.allocS HB8.out (.cells #[.int .i64 k, .int .i64 zv] 43))
                go_wp2_with (at_builtin; refine wpList_app_ow _ rfl _ _ 22 rfl w4.heap.size 43 _ 2 16 Try.underlying22 infoE rfl (by decide) _ _ _ _ rfl HO9.out _ _ _ (eE.enc ⟨k, zv⟩) rfl rfl (fun _ => ⟨_, rfl, HN.out⟩) (fun uu hu => eE.one ⟨k, zv⟩ uu hu) (by decide) (by omega) HB9.out.size ?_; intro A4 c4 w4 r1 r2 r3)
                have h1 := ow_app (e := eE) (x := ⟨k, zv⟩) r1
                rw [List.length_append] at h1
                have HO10 := hide h1
                have HI10 := hide (HI9.out.apart r2 HS.out)
                have HS10 := hide (sep_l HS.out r3 (fun g hg => (HI9.out.blk g hg).2))
                have HB10 := hide (HB9.out.trans (r2.below (fun k hk => (HO9.out.blk k hk).1) HB9.out.size))
                clear r1 r2 r3 h1
                go_roundw
                case rel => exact ⟨j + 1, zs.length + 1, q, A4, A', c4, cc', zs ++ [⟨k, zv⟩], bs, by go_num, by omega, rfl, rfl, by omega, by omega, hide ⟨HZN.out, by rw [List.length_append]; rfl⟩, hide ⟨HQN.out, HQ.out.2⟩, HO10, HI10, HS10, HB10⟩
                case measure => simp [RowKit.intOf]; omega
        
          · obtain rfl : NK = j := by omega
            have d0 : decide ((NK : Int) < (NK : Int)) = false := decide_eq_false (by omega)
            have hall : K.take NK = K := List.take_of_length_le (by rw [HNK.out]; exact Nat.le_refl _)
            have hz : meL o a b = zs := by rw [HKD.out, ← HZ.out.1, hall]
            have hq : meB o a b = bs := by rw [HKB.out, ← HQ.out.1, hall]
            have hd := HR.out
            rw [hz, hq, HZ.out.2, HQ.out.2] at hd
            have hzl := HZ.out.2
            have hql := HQ.out.2
            by_cases h64 : m ≤ 64
            · have d2 : decide ((64 : Int) < (m : Int)) = false := decide_eq_false (by omega)
              by_cases q64 : q ≤ 64
              · have d3 : decide ((64 : Int) < (q : Int)) = false := decide_eq_false (by omega)
                have HRR := hide (show merR o a b = (zs, bs, 0) by rw [hd, if_pos ⟨h64, q64⟩])
                have HOZ := hide (HO.out.low B4.out.size)
                have HIZ := hide (HI.out.low B4.out.size)
                subst hzl
                subst hql
                clear hz hq hd hall
                go_wp2_with fail
                go_ret3
                unfold GivM
                rw [HRR.out]
                exact ⟨A, cc, A', cc', rfl, HOZ.out, HIZ.out, Below.next B4.out HB.out⟩
              · have d3 : decide ((64 : Int) < (q : Int)) = true := decide_eq_true (by omega)
                have HRR := hide (show merR o a b = ([], [], 6) by rw [hd, if_neg (fun h => q64 h.2)])
                clear hz hq hd hzl hql hall
                go_wp2_with fail
                go_ret3
                exact GivM.none 6 HRR.out rfl (Below.next B4.out HB.out)
            · have d2 : decide ((64 : Int) < (m : Int)) = true := decide_eq_true (by omega)
              have HRR := hide (show merR o a b = ([], [], 6) by rw [hd, if_neg (fun h => h64 h.1)])
              clear hz hq hd hzl hql hall
              go_wp2_with fail
              go_ret3
              exact GivM.none 6 HRR.out rfl (Below.next B4.out HB.out)
end Go.Proofs.Ytadmiecoahohiaa
