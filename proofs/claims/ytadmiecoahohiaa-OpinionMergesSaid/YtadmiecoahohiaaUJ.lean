/- The keys of some attributions, of both sides. -/
import Derived.Test.YtadmiecoahohiaaUI
import Derived.Test.YtadmiecoahohiaaUG
namespace Go.Proofs.Ytadmiecoahohiaa
open Go Go.RowKit Go.Lib
/-- a list as an argument -/
structure Ar where
  a : Option Addr
  n : Nat
  c : Nat
  l : List Ent
def fl (ls : List Ar) : List Int := ls.flatMap fun x => x.l.map Ent.k
def LL (w : World) (g : Nat) (ls : List Ar) : Prop := g < w.heap.size ∧ ∀ (j : Nat) (x : Ar), ls[j]? = some x → w.cell? ⟨g, j, none⟩ = some (.slice x.a x.n x.c) ∧ SL eE w x.a x.n x.l
theorem LL.keep {w w' : World} {g : Nat} {ls : List Ar} (h : LL w g ls) (hb : Below w.heap.size w w') : LL w' g ls :=
  ⟨Nat.lt_of_lt_of_le h.1 hb.size, fun j x hx => ⟨(hb.cell (p := ⟨g, j, none⟩) h.1).trans (h.2 j x hx).1, (h.2 j x hx).2.keep hb⟩⟩
theorem fl_next {ls : List Ar} {j : Nat} {x : Ar} (h : ls[j]? = some x) : fl (ls.take (j + 1)) = fl (ls.take j) ++ x.l.map Ent.k := by
  unfold fl
  rw [take_next h, List.flatMap_append]
  simp
theorem fl_len {ls : List Ar} {j : Nat} {x : Ar} (h : ls[j]? = some x) (m : Nat) : (fl (ls.take j) ++ (x.l.take m).map Ent.k).length ≤ (fl ls).length := by
  have h1 := fl_next h
  have h2 : (fl (ls.take (j + 1))).length ≤ (fl ls).length := by
    conv => rhs; rw [← List.take_append_drop (j + 1) ls]
    unfold fl
    rw [List.flatMap_append, List.length_append]
    omega
  rw [h1, List.length_append] at h2
  rw [List.length_append]
  have h3 : ((x.l.take m).map Ent.k).length ≤ (x.l.map Ent.k).length := by
    rw [List.length_map, List.length_map, List.length_take]; omega
  omega
theorem fl_all (ls : List Ar) : fl (ls.take ls.length) = fl ls := by rw [List.take_length]
theorem map_next {l : List Ent} {m : Nat} {y : Ent} (h : l[m]? = some y) : (l.take (m + 1)).map Ent.k = (l.take m).map Ent.k ++ [y.k] := by
  rw [take_next h, List.map_append]; rfl
set_option maxHeartbeats 8000000 in
set_option maxRecDepth 100000 in
theorem keysOf_any (g cc N : Nat) (ls : List Ar) (w : World) (h : LL w g ls) (hN : ls.length = N) (hn : N ≤ 100) (hb : (fl ls).length ≤ 900) :
    Calls Try.prog 46 #[.slice (some ⟨g, 0, none⟩) N cc] w fun e w' => ∃ A c, e = .returned (.slice A (kset (fl ls)).length c) ∧ Ow eI w' w.heap.size A (kset (fl ls)).length c (kset (fl ls)) ∧ Below w.heap.size w w' := by
  have H := hide h
  have HN := hide hN
  have HBB := hide hb
  clear h hN hb
  go_enter Try.func46, Try.ntmps46
  go_wp2_with fail
  go_loopw [3, 10] (fun s i wr => ∃ (j : Nat) (A : Option Addr) (c : Nat), i = .int .i64 (j : Int) ∧ j ≤ N ∧ s = .slice A (fl (ls.take j)).length c ∧ Hid (Ow eI wr w.heap.size A (fl (ls.take j)).length c (fl (ls.take j))) ∧ Hid (Below w.heap.size w wr)) (fun _ i _ => N - (RowKit.intOf i).toNat)
  case atStart => exact ⟨0, none, 0, rfl, Nat.zero_le _, rfl, hide (Ow.nil_ _ _), hide (Below.refl _ _)⟩
  case round =>
    obtain ⟨j, A, c, rfl, hj, rfl, HO, HB⟩ := hrel
    by_cases hlt : j < N
    · obtain ⟨x, hx⟩ : ∃ x, ls[j]? = some x := ⟨_, List.getElem?_eq_getElem (by rw [HN.out]; exact hlt)⟩
      have HX := hide hx
      have k0 := ((H.out.keep HB.out).2 j x hx).1
      have HSX := hide ((H.out.keep HB.out).2 j x hx).2
      have d0 : decide ((j : Int) < (N : Int)) = true := decide_eq_true (by omega)
      have a1 : (0 : Int) ≤ (j : Int) := by omega
      have a2 : (j : Int) < (N : Int) := by omega
      obtain ⟨XA, n, XC, l⟩ := x
      simp only at k0 HSX
      obtain ⟨X0, hX0⟩ : ∃ X0, fl (ls.take j) = X0 := ⟨_, rfl⟩
      have HX0 := hide hX0
      have HFL := hide (show ∀ m, (X0 ++ (l.take m).map Ent.k).length ≤ 900 from fun m => by rw [← hX0]; exact Nat.le_trans (fl_len hx m) HBB.out)
      have hl0 : l.length = n := ((H.out.keep HB.out).2 j _ hx).2.1
      have hn9 : n ≤ 900 := by
        have := HFL.out n
        rw [List.length_append, List.length_map, List.length_take, hl0] at this
        omega
      clear hl0
      rw [hX0] at HO
      rw [hX0]
      clear hx hX0
      go_wp2_with fail
      obtain ⟨w8, h8⟩ : ∃ z, z = wr := ⟨_, rfl⟩
      subst h8
      go_loopw [3, 16] (fun s i wr => ∃ (m : Nat) (A : Option Addr) (c : Nat), i = .int .i64 (m : Int) ∧ m ≤ n ∧ s = .slice A (X0 ++ (l.take m).map Ent.k).length c ∧ Hid (Ow eI wr w.heap.size A (X0 ++ (l.take m).map Ent.k).length c (X0 ++ (l.take m).map Ent.k)) ∧ Hid (Below w.heap.size w wr)) (fun _ i _ => n - (RowKit.intOf i).toNat)
      case atStart => exact ⟨0, A, c, rfl, Nat.zero_le _, by rw [List.take_zero, List.map_nil, List.append_nil], hide (by rw [List.take_zero, List.map_nil, List.append_nil]; exact HO.out), HB⟩
      case round =>
        obtain ⟨m, A1, c1, rfl, hm, rfl, HO1, HB1⟩ := hrel
        by_cases hlt2 : m < n
        · obtain ⟨b, o, y, rfl, hl, hy, m0, m1⟩ := ((H.out.keep HB1.out).2 j _ HX.out).2.atE hlt2
          have HY := hide hy
          have d1 : decide ((m : Int) < (n : Int)) = true := decide_eq_true (by omega)
          have b1 : (0 : Int) ≤ (m : Int) := by omega
          have b2_ : (m : Int) < (n : Int) := by omega
          have hlen := HFL.out m
          have HR := hide (show Ow eI ((wr.alloc (.cells #[.int .i64 y.k, .int .i64 y.v] 43)).alloc (.cells #[.int .i64 y.k] 3)) w.heap.size A1 (X0 ++ (l.take m).map Ent.k).length c1 (X0 ++ (l.take m).map Ent.k) from HO1.out.keep (((Below.refl _ _).alloc (Nat.le_refl _) _).alloc (by simp) _))
          have HN1 := hide (litI (g := wr.heap.size + 1) (x := y.k) (newE (wr.alloc (.cells #[.int .i64 y.k, .int .i64 y.v] 43)) #[.int .i64 y.k] 3 (by simp)))
          have HB3 := hide (show Below w.heap.size w ((wr.alloc (.cells #[.int .i64 y.k, .int .i64 y.v] 43)).alloc (.cells #[.int .i64 y.k] 3)) from (Below.allocS (Below.allocS HB1.out _) _))
          clear hy
          go_wp2_with (at_builtin; refine wpList_app_ow _ rfl _ _ 37 rfl w.heap.size 3 _ 1 8 Try.underlying37 infoI1 rfl (by decide) _ _ _ _ rfl HR.out _ _ _ (eI.enc y.k) rfl rfl (fun _ => ⟨_, rfl, HN1.out⟩) (fun uu hu => eI.one y.k uu hu) (by decide) (by omega) HB3.out.size ?_; intro A4 c4 w4 r1 r2 r3)
          go_roundw
          case rel =>
            have h1 := ow_app (e := eI) (x := y.k) r1
            rw [List.append_assoc, ← map_next HY.out] at h1
            refine ⟨m + 1, A4, c4, by go_num, by omega, ?_, hide h1, hide ?_⟩
            · rw [map_next HY.out]; simp [Nat.add_assoc]
            · exact HB3.out.trans (r2.below (fun k hk => (HR.out.blk k hk).1) HB3.out.size)
          case measure => simp [RowKit.intOf]; omega
        · obtain rfl : m = n := by omega
          have d1 : decide ((m : Int) < (m : Int)) = false := decide_eq_false (by omega)
          go_wp2_with fail
          go_roundw
          case rel =>
            have hl : l.length = m := ((H.out.keep HB1.out).2 j _ HX.out).2.1
            have e1 : X0 ++ (l.take m).map Ent.k = fl (ls.take (j + 1)) := by rw [fl_next HX.out, HX0.out, List.take_of_length_le (by omega)]
            exact ⟨j + 1, A1, c1, by go_num, by omega, by rw [← e1], hide (by rw [← e1]; exact HO1.out), HB1⟩
          case measure => simp [RowKit.intOf]; omega
    · obtain rfl : j = N := by omega
      have d0 : decide ((j : Int) < (j : Int)) = false := decide_eq_false (by omega)
      have hall : fl (ls.take j) = fl ls := by rw [← HN.out]; exact fl_all ls
      rw [hall] at HO ⊢
      have hbb := HBB.out
      clear hall
      go_wp2_with fail
      refine (sortI_any w.heap.size _ c A (fl ls) wr HO.out (by omega)).mono ?_
      rintro e w1 ⟨rfl, o1, t1⟩
      have O1 := hide o1
      have B1 := hide (Turn.onto HB.out t1 fun k hk => (HO.out.blk k hk).1)
      clear o1 t1
      go_wp2_with fail
      refine (compactI_any w.heap.size _ c A _ w1 O1.out (by omega)).mono ?_
      rintro e w2 ⟨rfl, o2, t2⟩
      have O2 := hide o2
      have B2 := hide (Turn.onto B1.out t2 fun k hk => (O1.out.blk k hk).1)
      clear o2 t2
      rw [keys_fin] at O2 ⊢
      go_wp2_with fail
      go_ret
      exact ⟨A, c, rfl, O2.out, B2.out⟩

set_option maxHeartbeats 8000000 in
set_option maxRecDepth 100000 in
theorem keys_any (g cc N : Nat) (ls : List Ar) (w : World) (h : LL w g ls) (hN : ls.length = N) (hn : N ≤ 100) (hb : (fl ls).length ≤ 900) :
    Calls Try.prog 48 #[.slice (some ⟨g, 0, none⟩) N cc] w fun e w' => ∃ A c, e = .returned (.slice A (kset (fl ls)).length c) ∧ SK w' A (kset (fl ls)).length c (kset (fl ls)) ∧ Below w.heap.size w w' := by
  have H := hide h
  have HN := hide hN
  have HBB := hide hb
  clear h hN hb
  go_enter Try.func48, Try.ntmps48
  go_wp2_with fail
  go_loopw [3, 4] (fun s i wr => ∃ (j : Nat) (A : Option Addr) (c : Nat), i = .int .i64 (j : Int) ∧ j ≤ N ∧ s = .slice A (kset (fl (ls.take j))).length c ∧ Hid (SK wr A (kset (fl (ls.take j))).length c (kset (fl (ls.take j)))) ∧ Hid (Below w.heap.size w wr)) (fun _ i _ => N - (RowKit.intOf i).toNat)
  case atStart => exact ⟨0, none, 0, rfl, Nat.zero_le _, rfl, hide (Ow.nil_ w w.heap.size).sk, hide (Below.refl _ _)⟩
  case round =>
    obtain ⟨j, A, c, rfl, hj, rfl, HO, HB⟩ := hrel
    by_cases hlt : j < N
    · obtain ⟨x, hx⟩ : ∃ x, ls[j]? = some x := ⟨_, List.getElem?_eq_getElem (by rw [HN.out]; exact hlt)⟩
      have HX := hide hx
      have d0 : decide ((j : Int) < (N : Int)) = true := decide_eq_true (by omega)
      have a1 : (0 : Int) ≤ (j : Int) := by omega
      have a2 : (j : Int) < (N : Int) := by omega
      obtain ⟨XA, n, XC, l⟩ := x
      obtain ⟨X0, hX0⟩ : ∃ X0, fl (ls.take j) = X0 := ⟨_, rfl⟩
      have HX0 := hide hX0
      have HFL := hide (show ∀ m, (X0 ++ (l.take m).map Ent.k).length ≤ 900 from fun m => by rw [← hX0]; exact Nat.le_trans (fl_len hx m) HBB.out)
      have hl0 : l.length = n := ((H.out.keep HB.out).2 j _ hx).2.1
      have hn9 : n ≤ 900 := by
        have := HFL.out n
        rw [List.length_append, List.length_map, List.length_take, hl0] at this
        omega
      clear hl0
      rw [hX0] at HO
      rw [hX0]
      clear hx hX0
      go_wp2_with fail
      obtain ⟨w8, h8⟩ : ∃ z, z = wr := ⟨_, rfl⟩
      subst h8
      go_loopw [3, 5] (fun s i wr => ∃ (m : Nat) (A : Option Addr) (c : Nat), i = .int .i64 (m : Int) ∧ m ≤ n ∧ s = .slice A (kset (X0 ++ (l.take m).map Ent.k)).length c ∧ Hid (SK wr A (kset (X0 ++ (l.take m).map Ent.k)).length c (kset (X0 ++ (l.take m).map Ent.k))) ∧ Hid (Below w.heap.size w wr)) (fun _ i _ => n - (RowKit.intOf i).toNat)
      case atStart => exact ⟨0, A, c, rfl, Nat.zero_le _, by rw [List.take_zero, List.map_nil, List.append_nil], hide (by rw [List.take_zero, List.map_nil, List.append_nil]; exact HO.out), HB⟩
      case round =>
        obtain ⟨m, A1, c1, rfl, hm, rfl, HO1, HB1⟩ := hrel
        have k0 := ((H.out.keep HB1.out).2 j _ HX.out).1
        simp only at k0
        by_cases hlt2 : m < n
        · obtain ⟨b, o, y, rfl, hl, hy, m0, m1⟩ := ((H.out.keep HB1.out).2 j _ HX.out).2.atE hlt2
          have HY := hide hy
          have d1 : decide ((m : Int) < (n : Int)) = true := decide_eq_true (by omega)
          have b1 : (0 : Int) ≤ (m : Int) := by omega
          have b2_ : (m : Int) < (n : Int) := by omega
          have HK := hide (show put idK (kset (X0 ++ (l.take m).map Ent.k)) y.k = kset (X0 ++ (l.take (m + 1)).map Ent.k) by rw [map_next HY.out, ← List.append_assoc, kset_snoc])
          have HC := hide (fun (W : World) (hs : SK W A1 (kset (X0 ++ (l.take m).map Ent.k)).length c1 (kset (X0 ++ (l.take m).map Ent.k))) => with_any A1 _ c1 _ y.k W hs (srt_kset _) (by have := len_kset (X0 ++ (l.take m).map Ent.k); have := HFL.out m; omega))
          rw [HK.out] at HC
          have HC2 := hide (HC.out wr HO1.out)
          have hln : (kset (X0 ++ (l.take m).map Ent.k)).length ≤ 900 := Nat.le_trans (len_kset _) (HFL.out m)
          clear hy HC
          generalize (kset (X0 ++ (l.take m).map Ent.k)).length = NK at *
          go_wp2_with fail
          refine HC2.out.mono ?_
          rintro e w1 ⟨A2, c2, rfl, s1, t1⟩
          have S1 := hide s1
          have B1 := hide (Below.next HB1.out t1)
          clear s1 t1 k0 m0 m1 HC2
          go_wp2_with fail
          go_roundw
          case rel => exact ⟨m + 1, A2, c2, by go_num, by omega, by first | rfl | (rw [List.map_take]; done), S1, B1⟩
          case measure => simp [RowKit.intOf]; omega
        · obtain rfl : m = n := by omega
          have d1 : decide ((m : Int) < (m : Int)) = false := decide_eq_false (by omega)
          go_wp2_with fail
          go_roundw
          case rel =>
            have hl : l.length = m := ((H.out.keep HB1.out).2 j _ HX.out).2.1
            have e1 : X0 ++ (l.take m).map Ent.k = fl (ls.take (j + 1)) := by rw [fl_next HX.out, HX0.out, List.take_of_length_le (by omega)]
            exact ⟨j + 1, A1, c1, by go_num, by omega, by rw [← e1], hide (by rw [← e1]; exact HO1.out), HB1⟩
          case measure => simp [RowKit.intOf]; omega
    · obtain rfl : j = N := by omega
      have d0 : decide ((j : Int) < (j : Int)) = false := decide_eq_false (by omega)
      have hall : fl (ls.take j) = fl ls := by rw [← HN.out]; exact fl_all ls
      rw [hall] at HO ⊢
      clear hall
      go_wp2_with fail
      go_ret
      exact ⟨A, c, rfl, HO.out, HB.out⟩
end Go.Proofs.Ytadmiecoahohiaa
