/- Counts and Turned. -/
import Derived.Test.YtfhidmlceemhaaaAJ
namespace Go.Proofs.Ytfhidmlceemhaaa
open Go Go.RowKit Go.Lib
open AM
/-- a list and an error -/
def I2 (xs : List Int) (er : Int) (w : World) (e : Ending) (w' : World) : Prop :=
  ∃ A n c, e = .returned (.tuple #[.slice A n c, .int .i64 er]) ∧ IS w' A n xs ∧ Below w.heap.size w w'
def castL (xs : List Nat) : List Int := xs.map (fun x : Nat => (x : Int))
theorem castL_at (xs : List Nat) (j : Nat) : (castL xs)[j]? = (xs[j]?).map (fun x : Nat => (x : Int)) := by unfold castL; rw [List.getElem?_map]
theorem own_is {w : World} {g : Nat} {t : TypeId} {xs : List Nat} {n : Nat} (h : Own w g .i64 t xs) (hn : xs.length = n) : IS w (some ⟨g, 0, none⟩) n (castL xs) :=
  ⟨by unfold castL; rw [List.length_map, hn], fun _ => ⟨g, 0, rfl, h.lt, fun j x hx => by
    rw [castL_at] at hx
    obtain ⟨y, hy, rfl⟩ := Option.map_eq_some_iff.1 hx
    rw [Nat.zero_add]
    exact h.cell hy⟩⟩
def cntX (l : List Int) : List Int := if chkX l = 0 then castL (ctL l) else []
set_option maxHeartbeats 4000000 in
theorem counts_any (A : Option Addr) (n c : Nat) (l : List Int) (w : World) (hr : IS w A n l) :
    Calls Try.prog 17 #[.slice A n c] w (I2 (cntX l) (chkX l) w) := by
  have HR := hide hr
  clear hr
  obtain ⟨r, hrr⟩ : ∃ r, chkX l = r := ⟨_, rfl⟩
  have hc := chkX_cases l
  rw [hrr] at hc ⊢
  have H := hide hrr
  clear hrr
  obtain ⟨M, hM⟩ := cR10_cX l
  have HM := hide hM
  clear hM
  by_cases h0 : r = 0
  · subst h0
    have HC := hide (cR10_ok H.out)
    clear hc
    rw [show cntX l = castL (ctL l) from if_pos H.out]
    go_enter Try.func17, Try.ntmps17
    go_wp2_with fail
    refine (count_any A n c l _ HR.out).mono ?_
    rintro e w1 ⟨rfl, hb⟩
    rw [H.out, HC.out]
    have F := boxC1 (rfl : w1.alloc (.cells _ 41) = _) [] zeros12
    have Fs := F.2.1.setRow l
    have Fb := nxt hb (below_rowC F.1 (Nat.le_refl _) (cX l))
    go_wp2_with (first | (refine wpList_store_row rfl 41 _ _ rfl w1.heap.size _ rfl rfl 41 _ F.2.1.row (cX_info _) (by rw [cX_size, cX_size]) (cX_one _) ?_))
    go_ret2
    exact ⟨_, 12, 12, rfl, own_is Fs (ctL_len l), Fb⟩
  · rw [show cntX l = [] from if_neg (by rw [H.out]; exact h0)]
    rcases hc with rfl | rfl | rfl
    · exact absurd rfl h0
    all_goals
      clear h0
      go_enter Try.func17, Try.ntmps17
      go_wp2_with fail
      refine (count_any A n c l _ HR.out).mono ?_
      rintro e w1 ⟨rfl, hb⟩
      rw [H.out, HM.out]
      have F := boxC1 (rfl : w1.alloc (.cells _ 41) = _) [] zeros12
      have Fb := nxt hb (below_rowC F.1 (Nat.le_refl _) (cX M))
      go_wp2_with (first | (refine wpList_store_row rfl 41 _ _ rfl w1.heap.size _ rfl rfl 41 _ F.2.1.row (cX_info _) (by rw [cX_size, cX_size]) (cX_one _) ?_))
      go_ret2
      exact ⟨none, 0, 0, rfl, IS.nil_ _ _, Fb⟩
/-- the turned hours -/
def turnN (l : List Int) (t : Int) : List Nat := l.map (fun x => ((x + t) % 12).toNat)
def turnX (l : List Int) (t : Int) : List Int := if chkX l = 0 then l.map (fun x => (x + t) % 12) else []
theorem turnN_len (l : List Int) (t : Int) : (turnN l t).length = l.length := by unfold turnN; rw [List.length_map]
theorem turnN_cast (l : List Int) (t : Int) : castL (turnN l t) = l.map (fun x => (x + t) % 12) := by
  unfold castL turnN
  rw [List.map_map]
  apply List.map_congr_left
  intro x _
  show (((x + t) % 12).toNat : Int) = _
  omega
theorem turnN_step {l : List Int} {t : Int} {k n : Nat} {x : Int} (hx : l[k]? = some x) (hk : k < n) {m : Nat} (hm : (x + t) % 12 = (m : Int)) : (turnN (l.take k) t ++ List.replicate (n - k) 0).set k m = turnN (l.take (k + 1)) t ++ List.replicate (n - (k + 1)) 0 := by
  have hl : (turnN (l.take k) t).length = k := by
    rw [turnN_len, List.length_take]
    have := (List.getElem?_eq_some_iff.1 hx).1
    omega
  rw [List.set_append_right _ _ (by omega), hl, Nat.sub_self, show n - k = (n - (k + 1)) + 1 by omega, List.replicate_succ, List.set_cons_zero, take_next hx]
  unfold turnN
  rw [List.map_append, List.append_assoc]
  congr 1
  show _ = ((x + t) % 12).toNat :: _
  rw [hm, Int.toNat_natCast]
  rfl
set_option maxHeartbeats 4000000 in
theorem turned_any (A : Option Addr) (n c : Nat) (l : List Int) (t : Int) (w : World) (hr : IS w A n l) :
    Calls Try.prog 19 #[.slice A n c, .int .i64 t] w (I2 (turnX l t) (chkX l) w) := by
  have HR := hide hr
  have HN := hide hr.1
  clear hr
  obtain ⟨r, hrr⟩ : ∃ r, chkX l = r := ⟨_, rfl⟩
  have hc := chkX_cases l
  rw [hrr] at hc ⊢
  have H := hide hrr
  clear hrr
  obtain ⟨M, hM⟩ := cR10_cX l
  have HM := hide hM
  clear hM
  by_cases h0 : r = 0
  · subst h0
    have HL := hide (chkX_sub H.out)
    have hn64 : n ≤ 64 := by rw [← HN.out]; exact HL.out.1
    have HC := hide (cR10_ok H.out)
    clear hc
    rw [show turnX l t = l.map (fun x => (x + t) % 12) from if_pos H.out, ← turnN_cast]
    go_enter Try.func19, Try.ntmps19
    go_wp2_with fail
    refine (count_any A n c l _ HR.out).mono ?_
    rintro e w1 ⟨rfl, hb⟩
    rw [H.out, HC.out]
    have F := boxC1 (rfl : w1.alloc (.cells _ 41) = _) [] zeros12
    have Fb := hide (nxt hb (below_rowC F.1 (Nat.le_refl _) (cX l)))
    go_wp2_with (first | (refine wpList_store_row rfl 41 _ _ rfl w1.heap.size _ rfl rfl 41 _ F.2.1.row (cX_info _) (by rw [cX_size, cX_size]) (cX_one _) ?_) | (at_make; refine wpList_make_zero _ rfl _ _ 25 rfl 3 .i64 8 Try.underlying25 infoI .i64 .i64 _ _ n rfl rfl (by go_num) (by go_num) (by omega) (by omega) ?_))
    intro g w2 hg ho hb2
    have HO := hide (show Own w2 g .i64 3 (turnN (l.take 0) t ++ List.replicate (n - 0) 0) from ho)
    have HB := hide (nxt Fb.out (by simpa using hb2))
    have hgw : w.heap.size ≤ g := by have := hb.size; omega
    clear ho hb2 F Fb hb hg
    go_wp2_with fail
    go_loopw [24] (fun a wr => ∃ k : Nat, k ≤ n ∧ a = .int .i64 (k : Int) ∧ Hid (Own wr g .i64 3 (turnN (l.take k) t ++ List.replicate (n - k) 0)) ∧ Hid (Below w.heap.size w wr)) (fun a _ => n - (RowKit.intOf a).toNat)
    case atStart => exact ⟨0, Nat.zero_le _, rfl, HO, HB⟩
    case round =>
      clear HO HB
      obtain ⟨k, hk, rfl, HO, HB⟩ := hrel
      by_cases hlt : k < n
      · have d1 : decide ((k : Int) < (n : Int)) = true := decide_eq_true (by omega)
        obtain ⟨b, o, x, rfl, hl, hx, k0⟩ := (HR.out.keep HB.out).at_ hlt
        have hx2 := all_at HL.out.2 hx
        have HX := hide hx
        obtain ⟨m, hm⟩ : ∃ m : Nat, (x + t) % 12 = (m : Int) := ⟨((x + t) % 12).toNat, by omega⟩
        have HMM := hide hm
        clear hx hm
        have i2 : (0 : Int) ≤ (k : Int) := by omega
        have i3 : (k : Int) < (n : Int) := by omega
        have f0 := HO.out.frozen k
        have hlg := HO.out.lt
        obtain ⟨y, hy⟩ : ∃ y, (turnN (l.take k) t ++ List.replicate (n - k) 0)[k]? = some y := ⟨_, List.getElem?_eq_getElem (by rw [List.length_append, turnN_len, List.length_take, List.length_replicate, HN.out]; omega)⟩
        have z0 := HO.out.cell hy
        clear hy
        have hx0 := hx2.1
        have hx1 := hx2.2
        clear hx2
        go_wp2_with fail
        refine (turn_any x t hx0 hx1 (m : Int) HMM.out _).mono ?_
        rintro e w3 ⟨rfl, rfl⟩
        go_wp2_with fail
        go_roundw
        case measure => simp [RowKit.intOf]; omega
        case rel => exact ⟨k + 1, by omega, by go_num, hide (by rw [← turnN_step HX.out hlt HMM.out]; exact Own.put HO.out k rfl), hide (HB.out.setCell hgw _)⟩
      · obtain rfl : k = n := by omega
        have d1 : decide ((k : Int) < (k : Int)) = false := decide_eq_false (by omega)
        have HO2 := hide (show Own wr g .i64 3 (turnN l t) from by
          have h := HO.out
          rw [Nat.sub_self, List.take_of_length_le (by rw [HN.out]; exact Nat.le_refl _)] at h
          simpa using h)
        clear HO
        go_wp2_with fail
        go_ret2
        exact ⟨_, k, k, rfl, own_is HO2.out (by rw [turnN_len, HN.out]), HB.out⟩
  · rw [show turnX l t = [] from if_neg (by rw [H.out]; exact h0)]
    rcases hc with rfl | rfl | rfl
    · exact absurd rfl h0
    all_goals
      clear h0
      go_enter Try.func19, Try.ntmps19
      go_wp2_with fail
      refine (count_any A n c l _ HR.out).mono ?_
      rintro e w1 ⟨rfl, hb⟩
      rw [H.out, HM.out]
      have F := boxC1 (rfl : w1.alloc (.cells _ 41) = _) [] zeros12
      have Fb := nxt hb (below_rowC F.1 (Nat.le_refl _) (cX M))
      go_wp2_with (first | (refine wpList_store_row rfl 41 _ _ rfl w1.heap.size _ rfl rfl 41 _ F.2.1.row (cX_info _) (by rw [cX_size, cX_size]) (cX_one _) ?_))
      go_ret2
      exact ⟨none, 0, 0, rfl, IS.nil_ _ _, Fb⟩
end Go.Proofs.Ytfhidmlceemhaaa
