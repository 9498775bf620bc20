/- Rows of ints; specimen.Of. -/
import Derived.Test.YtaapcfflnklpjaaGreatDoorSJ
import Derived.Deep.RegionHeld3
namespace Go.Proofs.YtaapcfflnklpjaaGreatDoor
open Go Go.RowKit Go.Lib
theorem infoI : (Tryz.prog.info? 3).map (fun i => (i.zero, i.size, i.bytes)) = some (some (.int .i64 0), 1, 8) := by kernel_rfl
def cellsI (l : List Int) : List Value := l.map (Value.int .i64)
theorem cellsI_len (l : List Int) : (cellsI l).length = l.length := by unfold cellsI; rw [List.length_map]
theorem cellsI_snoc (l : List Int) (x : Int) : cellsI (l ++ [x]) = cellsI l ++ [.int .i64 x] := by unfold cellsI; rw [List.map_append]; rfl
/-- a slice value of n ints -/
def IS (w : World) (A : Option Addr) (n : Nat) (l : List Int) : Prop :=
  l.length = n ∧ (0 < n → ∃ b o, A = some ⟨b, o, none⟩ ∧ b < w.heap.size ∧ ∀ (j : Nat) (x : Int), l[j]? = some x → w.cell? ⟨b, o + j, none⟩ = some (.int .i64 x))
theorem IS.keep {w w' : World} {A : Option Addr} {n : Nat} {l : List Int} (h : IS w A n l) (hb : Below w.heap.size w w') : IS w' A n l :=
  ⟨h.1, fun hn => by
    obtain ⟨b, o, e, hl, hc⟩ := h.2 hn
    exact ⟨b, o, e, Nat.lt_of_lt_of_le hl hb.size, fun j u hu => (hb.cell (p := ⟨b, o + j, none⟩) hl).trans (hc j u hu)⟩⟩
theorem IS.nil_ (w : World) (A : Option Addr) : IS w A 0 [] := ⟨rfl, fun h => absurd h (by decide)⟩
theorem IS.at_ {w : World} {A : Option Addr} {n : Nat} {l : List Int} (h : IS w A n l) {j : Nat} (hj : j < n) : ∃ b o x, A = some ⟨b, o, none⟩ ∧ b < w.heap.size ∧ l[j]? = some x ∧ w.cell? ⟨b, o + j, none⟩ = some (.int .i64 x) := by
  obtain ⟨b, o, e, hl, hc⟩ := h.2 (by omega)
  have hj' : j < l.length := by rw [h.1]; exact hj
  have hx : l[j]? = some l[j] := List.getElem?_eq_getElem hj'
  exact ⟨b, o, _, e, hl, hx, hc _ _ hx⟩
/-- a slice of ints of the call's own -/
def OwnI (w : World) (base : Nat) (v : Value) (l : List Int) : Prop := w.ownsRow base 3 1 v l.length (cellsI l)
theorem own_keep9 {w w' : World} {base size n : Nat} {e : TypeId} {v : Value} {xs : List Value} (h : w.ownsRow base e size v n xs) (hb : Below w.heap.size w w') : w'.ownsRow base e size v n xs :=
  World.ownsRow.kept (row := none) h ⟨hb.os, hb.tape, hb.output, hb.size, fun i hi _ => hb.block i hi⟩ (by cases hv : v.ownBlock <;> simp)
theorem OwnI.is {w : World} {base : Nat} {v : Value} {l : List Int} (h : OwnI w base v l) : ∃ A c, v = .slice A l.length c ∧ IS w A l.length l := by
  rcases h.2 with ⟨e, hl⟩ | ⟨g, c, cur, e, _⟩
  · exact ⟨none, 0, by rw [e, hl], by rw [List.length_eq_zero_iff.1 hl]; exact IS.nil_ _ _⟩
  · subst e
    refine ⟨_, c, rfl, rfl, fun _ => ⟨g, 0, rfl, (World.ownsRow.lt h g rfl).2, fun j x hx => ?_⟩⟩
    rw [Nat.zero_add, World.ownsRow.cellAt h j (by have := (List.getElem?_eq_some_iff.1 hx).1; omega)]
    unfold cellsI
    rw [List.getElem?_map, hx]
    rfl
theorem OwnI.nil_ (w : World) (base : Nat) : OwnI w base (.slice none 0 0) [] := ⟨rfl, .inl ⟨rfl, rfl⟩⟩
theorem own_below {B base size n : Nat} {a w w' : World} {e : TypeId} {v : Value} {xs : List Value} (h : Below B a w) (k : w.grownBy w' v.ownBlock) (hB : B ≤ w.heap.size) (ho : w.ownsRow base e size v n xs) (hb : B ≤ base) : Below B a w' :=
  h.grown k hB fun j ej => Nat.le_trans hb (World.ownsRow.lt ho j ej).1
theorem add_at9 (g j : Nat) : (⟨g, 0, none⟩ : Addr).add j = ⟨g, j, none⟩ := by
  unfold Addr.add
  split
  · rename_i h; subst h; rfl
  · simp
theorem lit_cells {w : World} {t : TypeId} (vs : List Value) : ∀ j u, vs[j]? = some u → (w.alloc (.cells vs.toArray t)).cell? ((⟨w.heap.size, 0, none⟩ : Addr).add j) = some u := by
  intro j u hu
  rw [add_at9, (Box.new w vs.toArray t).at_ j]
  simpa using hu
/-- between two rounds of Of -/
def OfIn (W : World) (n : Nat) (zs : List Spc) (s d : Int) (v i : Value) (wr : World) : Prop :=
  ∃ (k : Nat) (ids : List Int), k ≤ n ∧ i = .int .i64 (k : Int) ∧ ids = ofS (zs.take k) s d ∧ ids.length ≤ k ∧ OwnI wr W.heap.size v ids ∧ Below W.heap.size W wr
theorem ofS_step {zs : List Spc} {k : Nat} {y : Spc} (hy : zs[k]? = some y) (s d : Int) : ofS (zs.take (k + 1)) s d = ofS (zs.take k) s d ++ (if (if s = 0 then y.o else y.r) = d then [y.i] else []) := by
  rw [List.take_add_one, hy]
  unfold ofS
  rw [List.filter_append, List.map_append]
  congr 1
  by_cases h : (if s = 0 then y.o else y.r) = d
  · rw [if_pos h]
    simp only [Option.toList]
    rw [List.filter_cons_of_pos (by simpa using h)]
    rfl
  · rw [if_neg h]
    simp only [Option.toList]
    rw [List.filter_cons_of_neg (by simpa using h)]
    rfl
/-- what Of gives -/
def GivesOf (ys : List Spc) (s d : Int) (w : World) (e : Ending) (w' : World) : Prop :=
  ∃ A n c ids, e = .returned (.tuple #[.slice A n c, .int .i64 (if chk ys = 0 then if dB s d then 0 else 1 else chk ys)]) ∧ IS w' A n ids ∧ (chk ys = 0 ∧ dB s d = true → ∃ zs, Srt ys zs ∧ ids = ofS zs s d) ∧ (¬(chk ys = 0 ∧ dB s d = true) → ids = []) ∧ Below w.heap.size w w'
theorem boxDie {w W : World} {s d : Int} {t : TypeId} (hW : w.alloc (.cells #[.int .i64 s, .int .i64 d] t) = W) : Below w.heap.size w W ∧ Box W w.heap.size #[.int .i64 s, .int .i64 d] t := by
  subst hW
  exact ⟨(Below.refl _ _).alloc (Nat.le_refl _) _, Box.new _ _ _⟩
set_option maxHeartbeats 2000000 in
theorem of_err (A : Option Addr) (n c : Nat) (ys : List Spc) (s d : Int) (w : World) (hr : SL w A n ys) (h : chk ys ≠ 0) :
    Calls Tryz.prog 25 #[.slice A n c, .agg #[.int .i64 s, .int .i64 d]] w (GivesOf ys s d w) := by
  have HR := hide hr
  have HH := hide h
  have hl : chk ys = 6 ∨ chk ys = 1 ∨ chk ys = 8 := by rcases chk_cases ys with h' | h'; exact absurd h' h; exact h'
  obtain ⟨r, hrr⟩ : ∃ r, chk ys = r := ⟨_, rfl⟩
  rw [hrr] at hl
  have H := hide hrr
  clear hr h hrr
  rcases hl with rfl | rfl | rfl
  all_goals
    go_enter Tryz.func25, Tryz.ntmps25
    go_wp2_with fail
    generalize hW : w.alloc _ = W
    obtain ⟨B, b0⟩ := boxDie hW
    clear hW
    refine (sort_any A n c ys _ (HR.out.keep B)).mono ?_
    rintro e w1 ⟨A1, n1, d1, zs, rfl, hs, h1, h2, hb⟩
    rw [H.out]
    go_wp2_with fail
    go_ret2
    exact ⟨none, 0, 0, [], by rw [if_neg HH.out, H.out]; rfl, IS.nil_ _ _, fun h => absurd h.1 HH.out, fun _ => rfl, nxt B hb⟩
set_option maxHeartbeats 2000000 in
theorem of_bad (A : Option Addr) (n c : Nat) (ys : List Spc) (s d : Int) (w : World) (hr : SL w A n ys) (h : chk ys = 0) (hd : dB s d = false) :
    Calls Tryz.prog 25 #[.slice A n c, .agg #[.int .i64 s, .int .i64 d]] w (GivesOf ys s d w) := by
  have HR := hide hr
  have H := hide h
  have HD := hide hd
  clear hr h hd
  go_enter Tryz.func25, Tryz.ntmps25
  go_wp2_with fail
  generalize hW : w.alloc _ = W
  obtain ⟨B, b0⟩ := boxDie hW
  clear hW
  refine (sort_any A n c ys _ (HR.out.keep B)).mono ?_
  rintro e w1 ⟨A1, n1, d1, zs, rfl, hs, h1, h2, hb⟩
  rw [H.out]
  replace b0 := b0.below' hb
  have k0 := b0.at_ 0
  have k1 := b0.at_ 1
  simp at k0 k1
  have l0 := b0.lt
  go_wp2_with fail
  refine (valid_any s d 0 _ false (by rw [dB_lab]; exact HD.out)).mono ?_
  rintro e w2 ⟨rfl, hb2⟩
  go_wp2_with fail
  go_ret2
  exact ⟨none, 0, 0, [], by rw [if_pos H.out, HD.out]; rfl, IS.nil_ _ _, fun h => absurd (HD.out.symm.trans h.2) (by decide), fun _ => rfl, nxt B (nxt hb hb2)⟩
set_option maxHeartbeats 8000000 in
set_option maxRecDepth 100000 in
theorem of_ok (A : Option Addr) (n c : Nat) (ys : List Spc) (s d : Int) (w : World) (hr : SL w A n ys) (h : chk ys = 0) (hd : dB s d = true) :
    Calls Tryz.prog 25 #[.slice A n c, .agg #[.int .i64 s, .int .i64 d]] w (GivesOf ys s d w) := by
  have HR := hide hr
  have H := hide h
  have HD := hide hd
  clear hr h hd
  go_enter Tryz.func25, Tryz.ntmps25
  go_wp2_with fail
  generalize hW : w.alloc _ = W
  obtain ⟨B, b0⟩ := boxDie hW
  clear hW
  refine (sort_any A n c ys _ (HR.out.keep B)).mono ?_
  rintro e w1 ⟨A1, n1, d1, zs, rfl, hs, h1, h2, hb⟩
  rw [H.out]
  replace b0 := b0.below' hb
  replace B := nxt B hb
  have k0 := b0.at_ 0
  have k1 := b0.at_ 1
  simp at k0 k1
  have l0 := b0.lt
  have HS := hide (h1 H.out)
  have hn1 : n1 ≤ 64 := by
    have := (chk_ok.1 (HS.out.chk H.out)).1
    rw [hs.1] at this
    exact this
  clear h1 h2 hb
  go_wp2_with fail
  refine (valid_any s d 0 _ true (by rw [dB_lab]; exact HD.out)).mono ?_
  rintro e w2 ⟨rfl, hb2⟩
  replace b0 := b0.below' hb2
  replace B := nxt B hb2
  replace hs := hs.keep hb2
  clear hb2 k0 k1 l0
  have HSL := hide hs
  have HB := hide B
  have HBX := hide b0
  have HL := hide b0.lt
  clear B b0 hs
  obtain ⟨i0, hi, hz0, hz1, hz2⟩ := info_parts infoI
  have Hz0 := hide hz0
  have Hz1 := hide hz1
  have Hz2 := hide hz2
  have Hi := hide hi
  clear hz0 hz1 hz2 hi
  go_wp2_with fail
  go_loopw [8, 28] (fun v i wr => OfIn w2 n1 zs s d v i wr) (fun _ i _ => n1 - (RowKit.intOf i).toNat)
  case atStart => exact ⟨0, [], Nat.zero_le _, rfl, rfl, Nat.le_refl _, OwnI.nil_ _ _, Below.refl _ _⟩
  case round =>
    obtain ⟨k, ids, hk, rfl, hids, hlen, ho, hB⟩ := hrel
    have HO := hide ho
    have HBR := hide hB
    have HIDS := hide hids
    have hsz := hB.size
    have l0 : w.heap.size < wr.heap.size := by have := HL.out; omega
    by_cases hlt : k < n1
    · have d0 : decide ((k : Int) < (n1 : Int)) = true := decide_eq_true (by omega)
      obtain ⟨b, o, y, rfl, hbl, hy, k0, k1, k2, k3, k4, k5, k6⟩ := (HSL.out.keep HBR.out).at_ hlt
      have HY := hide hy
      clear ho hB hids hy
      obtain ⟨r, hrr⟩ : ∃ r, (if s = 0 then y.o else y.r) = r := ⟨_, rfl⟩
      have HRR := hide hrr
      clear hrr
      go_wp2_with fail
      clear k0 k1 k2 k3 k4 k5 k6
      generalize hV : wr.alloc _ = V
      obtain ⟨B1, hzV, hkV⟩ := box7 hV
      have q1 := nxt HBR.out B1
      have KS := hide (fun w' (h : Below V.heap.size V w') => And.intro (hkV w' h) (And.intro ((HBX.out.below' (nxt q1 h)).at_ 0) ((HBX.out.below' (nxt q1 h)).at_ 1)))
      have Q1 := hide q1
      have HBV := hide B1
      clear hkV hV B1
      obtain ⟨⟨k0, k1, k2, k3, k4, k5, k6⟩, x0, x1⟩ := KS.out _ (Below.refl _ _)
      simp at x0 x1
      by_cases hrd : r = d
      · have e0 : (r == d) = true := beq_iff_eq.2 hrd
        have HST := hide (show ofS (zs.take (k + 1)) s d = ids ++ [y.i] by rw [ofS_step HY.out, ← HIDS.out, HRR.out, if_pos hrd])
        clear hrd k0 k1 k2 k3 k4 k5 k6 x0 x1
        go_region_held3 (fun w' => (w'.cell? ⟨wr.heap.size, 0, none⟩ = some (.int .i64 y.i) ∧ w'.cell? ⟨wr.heap.size, 1, none⟩ = some (.int .i64 y.o) ∧ w'.cell? ⟨wr.heap.size, 2, none⟩ = some (.int .i64 y.r) ∧ w'.cell? ⟨wr.heap.size, 3, none⟩ = some (.int .i64 y.a) ∧ w'.cell? ⟨wr.heap.size, 4, none⟩ = some (.int .i64 y.b) ∧ w'.cell? ⟨wr.heap.size, 5, none⟩ = some (.int .i64 y.h) ∧ w'.cell? ⟨wr.heap.size, 6, none⟩ = some (.int .i64 y.m)) ∧ w'.cell? ⟨w.heap.size, 0, none⟩ = some (.int .i64 s) ∧ w'.cell? ⟨w.heap.size, 1, none⟩ = some (.int .i64 d))
          (exact KS.out _ (by ((repeat (first | (with_reducible assumption) | (with_reducible exact Below.refl _ _) | (with_reducible refine Below.drewS ?_) | (with_reducible refine Below.allocS ?_ _) | (with_reducible refine Below.setS ?_ (by first | omega | (simp; omega)) _))); (first | done | fail))))
          (first | (go_at_call 62; (with_reducible refine (num9_any y s _ r HRR.out).mono ?_); rintro e w7 ⟨rfl, hb7⟩; have E7 : Below V.heap.size V w7 := Below.next (by ((repeat (first | (with_reducible assumption) | (with_reducible exact Below.refl _ _) | (with_reducible refine Below.drewS ?_) | (with_reducible refine Below.allocS ?_ _) | (with_reducible refine Below.setS ?_ (by first | omega | (simp; omega)) _))); (first | done | fail))) hb7))
        obtain ⟨⟨k0, k1, k2, k3, k4, k5, k6⟩, x0, x1⟩ := KS.out _ E7
        have E8 := hide (nxt HBV.out E7)
        have lV := E7.size
        go_wp2_with (at_builtin; refine wpList_append_own _ rfl _ _ 41 rfl w2.heap.size 3 i0 _ 1 8 Tryz.underlying41 Hi.out Hz0.out Hz1.out Hz2.out rfl (by decide) _ ids.length (cellsI ids) rfl (own_keep9 HO.out (E8.out.alloc E8.out.size _)) _ 1 1 [.int .i64 y.i] rfl rfl ?c1 ?c2 ?c3 ?c4 ?c5 ?_)
        case c1 => exact lit_cells [.int .i64 y.i]
        case c2 => exact fun u hu => by rw [List.mem_singleton] at hu; subst hu; rfl
        case c3 => unfold maxLen; omega
        case c4 => omega
        case c5 => have := E8.out.size; simp; omega
        intro v' w9 ho9 hgr9 _
        have HO9 := hide ho9
        have HG9 := hide hgr9
        clear ho9 hgr9
        go_wp2_with fail
        go_roundw
        case rel =>
          refine ⟨k + 1, ids ++ [y.i], by omega, by go_num, HST.out.symm, by simp; omega, ?_, ?_⟩
          · unfold OwnI
            rw [cellsI_snoc, List.length_append]
            exact HO9.out
          · exact own_below ((nxt Q1.out E7).alloc (nxt Q1.out E7).size _) HG9.out (by have := (nxt Q1.out E7).size; simp; omega) (own_keep9 HO.out (E8.out.alloc E8.out.size _)) (Nat.le_refl _)
        case measure => simp [RowKit.intOf]; omega
      · have e0 : (r == d) = false := beq_eq_false_iff_ne.2 hrd
        have HST := hide (show ofS (zs.take (k + 1)) s d = ids by rw [ofS_step HY.out, ← HIDS.out, HRR.out, if_neg hrd, List.append_nil])
        clear hrd k0 k1 k2 k3 k4 k5 k6 x0 x1
        go_region_held3 (fun w' => (w'.cell? ⟨wr.heap.size, 0, none⟩ = some (.int .i64 y.i) ∧ w'.cell? ⟨wr.heap.size, 1, none⟩ = some (.int .i64 y.o) ∧ w'.cell? ⟨wr.heap.size, 2, none⟩ = some (.int .i64 y.r) ∧ w'.cell? ⟨wr.heap.size, 3, none⟩ = some (.int .i64 y.a) ∧ w'.cell? ⟨wr.heap.size, 4, none⟩ = some (.int .i64 y.b) ∧ w'.cell? ⟨wr.heap.size, 5, none⟩ = some (.int .i64 y.h) ∧ w'.cell? ⟨wr.heap.size, 6, none⟩ = some (.int .i64 y.m)) ∧ w'.cell? ⟨w.heap.size, 0, none⟩ = some (.int .i64 s) ∧ w'.cell? ⟨w.heap.size, 1, none⟩ = some (.int .i64 d))
          (exact KS.out _ (by ((repeat (first | (with_reducible assumption) | (with_reducible exact Below.refl _ _) | (with_reducible refine Below.drewS ?_) | (with_reducible refine Below.allocS ?_ _) | (with_reducible refine Below.setS ?_ (by first | omega | (simp; omega)) _))); (first | done | fail))))
          (first | (go_at_call 62; (with_reducible refine (num9_any y s _ r HRR.out).mono ?_); rintro e w7 ⟨rfl, hb7⟩; have E7 : Below V.heap.size V w7 := Below.next (by ((repeat (first | (with_reducible assumption) | (with_reducible exact Below.refl _ _) | (with_reducible refine Below.drewS ?_) | (with_reducible refine Below.allocS ?_ _) | (with_reducible refine Below.setS ?_ (by first | omega | (simp; omega)) _))); (first | done | fail))) hb7))
        all_goals
          go_wp2_with fail
          go_roundw
          case rel => exact ⟨k + 1, ids, by omega, by go_num, HST.out.symm, by omega, own_keep9 HO.out ((by first | exact nxt HBV.out E7 | exact (nxt HBV.out E7).drew)), by first | exact nxt Q1.out E7 | exact (nxt Q1.out E7).drew⟩
          case measure => simp [RowKit.intOf]; omega
    · obtain rfl : k = n1 := by omega
      have d0 : decide ((k : Int) < (k : Int)) = false := decide_eq_false (by omega)
      obtain ⟨A2, c2, rfl, his⟩ := ho.is
      have HIS := hide his
      clear ho hB hids his
      go_wp2_with fail
      go_ret2
      refine ⟨A2, ids.length, c2, ids, by rw [if_pos H.out, HD.out]; rfl, HIS.out, fun _ => ⟨zs, HS.out, ?_⟩, fun h => absurd ⟨H.out, HD.out⟩ h, nxt HB.out HBR.out⟩
      rw [HIDS.out, List.take_of_length_le (by rw [HSL.out.1]; exact Nat.le_refl _)]
theorem of_any (A : Option Addr) (n c : Nat) (ys : List Spc) (s d : Int) (w : World) (hr : SL w A n ys) :
    Calls Tryz.prog 25 #[.slice A n c, .agg #[.int .i64 s, .int .i64 d]] w (GivesOf ys s d w) := by
  by_cases h : chk ys = 0
  · cases hd : dB s d
    · exact of_bad A n c ys s d w hr h hd
    · exact of_ok A n c ys s d w hr h hd
  · exact of_err A n c ys s d w hr h
end Go.Proofs.YtaapcfflnklpjaaGreatDoor
