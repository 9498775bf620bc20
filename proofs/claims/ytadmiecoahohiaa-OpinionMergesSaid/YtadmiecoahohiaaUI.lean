/- The reference's with: numbers in order, and one more. -/
import Derived.Test.YtadmiecoahohiaaUH
import Derived.Shelf.RegionOpenPlain
import Derived.Deep.RegionHeld3
namespace Go.Proofs.Ytadmiecoahohiaa
open Go Go.RowKit Go.Lib
theorem bxD {W : World} {g : Nat} {vs : Array Value} {t : TypeId} (h : Box W g vs t) : Box W.drew g vs t := h
theorem bxA {W : World} {g : Nat} {vs : Array Value} {t : TypeId} (h : Box W g vs t) (o : Obj) : Box (W.alloc o) g vs t := h.alloc o
theorem own_lit {W : World} {g B : Nat} (h : Box W g #[] 3) (hB : B ≤ g) : W.ownsRow B 3 1 (.slice (some ⟨g, 0, none⟩) 0 0) 0 [] :=
  ⟨by simp, .inr ⟨g, 0, #[], rfl, hB, h, Nat.le_refl _, by simp [maxLen], by simp, by simp⟩⟩
/-- a row of numbers that may be cut -/
def SK (w : World) (A : Option Addr) (n c : Nat) (ys : List Int) : Prop := SL eI w A n ys ∧ n ≤ c ∧ c ≤ maxLen ∧ ∀ b o s, A = some ⟨b, o, s⟩ → s = none
theorem SK.keep {w w' : World} {A : Option Addr} {n c : Nat} {ys : List Int} (h : SK w A n c ys) (hb : Below w.heap.size w w') : SK w' A n c ys := ⟨h.1.keep hb, h.2⟩
theorem Ow.sk {w : World} {B : Nat} {A : Option Addr} {n c : Nat} {ys : List Int} (h : Ow eI w B A n c ys) : SK w A n c ys := ⟨h.sl, h.le.1, h.le.2, fun b o s e => by
  rcases h.2 with ⟨h1, _⟩ | ⟨g, _, _, h1, _⟩
  · injection h1 with h1; rw [h1] at e; cases e
  · injection h1 with h1; rw [h1] at e; injection e with e; injection e with _ _ e; exact e.symm⟩
theorem SL.fromI {w : World} {b o n k : Nat} {ys : List Int} (h : SL eI w (some ⟨b, o, none⟩) n ys) (_hk : k < n) : SL eI w (some ⟨b, o + k, none⟩) (n - k) (ys.drop k) :=
  ⟨by rw [List.length_drop, h.1], fun _ => by
    obtain ⟨b', o', e, hl, hc⟩ := h.2 (by omega)
    injection e with e
    injection e with e1 e2
    subst e1; subst e2
    refine ⟨_, _, rfl, hl, fun j u hj => ?_⟩
    rw [flatE_drop, List.getElem?_drop] at hj
    have := hc _ u hj
    rwa [show k * eI.k = k from Nat.mul_one k, ← Nat.add_assoc] at this⟩
theorem SL.toI {w : World} {A : Option Addr} {n k : Nat} {ys : List Int} (h : SL eI w A n ys) (hk : k ≤ n) : SL eI w A k (ys.take k) :=
  ⟨by rw [List.length_take, h.1]; omega, fun hn => by
    obtain ⟨b, o, e, hl, hc⟩ := h.2 (by omega)
    refine ⟨_, _, e, hl, fun j u hj => hc j u ?_⟩
    rw [flatE_take, List.getElem?_take] at hj
    split at hj
    · exact hj
    · cases hj⟩
theorem put_ins {ys : List Int} {x : Int} {k : Nat} (hn : x ∉ ys) (hk : k = cnt idK x ys) : put idK ys x = insA ys k x := by
  unfold put
  rw [if_neg hn, hk]
  rfl

set_option maxHeartbeats 8000000 in
set_option maxRecDepth 100000 in
theorem with_any (A : Option Addr) (n c : Nat) (ys : List Int) (x : Int) (w : World) (hs : SK w A n c ys) (ho : Srt idK ys) (hn : n ≤ 1000) :
    Calls Try.prog 52 #[.slice A n c, .int .i64 x] w fun e w' => ∃ A' c', e = .returned (.slice A' (put idK ys x).length c') ∧ SK w' A' (put idK ys x).length c' (put idK ys x) ∧ Below w.heap.size w w' := by
  have HS := hide hs
  have HO := hide ho
  have hnc := hs.2.1
  have hcm := hs.2.2.1
  unfold maxLen at hcm
  clear hs ho
  go_enter Try.func52, Try.ntmps52
  go_wp2_with fail
  go_loopw [5] (fun i wr => ∃ k : Nat, i = .int .i64 (k : Int) ∧ k ≤ n ∧ Hid (∀ (j : Nat) (y : Int), j < k → ys[j]? = some y → idK y < x) ∧ w = wr) (fun i _ => n - (RowKit.intOf i).toNat)
  case atStart => exact ⟨0, rfl, Nat.zero_le _, hide (fun j y h => absurd h (Nat.not_lt_zero _)), rfl⟩
  case round =>
    obtain ⟨k, rfl, hk, HI, rfl⟩ := hrel
    by_cases hlt : k < n
    · obtain ⟨b, o, y, rfl, hl, hy, hc0⟩ := HS.out.1.atI hlt
      have c0 : w.cell? ⟨b, o + k, none⟩ = some (.int .i64 y) := by rw [show o + k = o + k * 1 by omega]; exact hc0
      have HY := hide hy
      have d0 : decide ((k : Int) < (n : Int)) = true := decide_eq_true (by omega)
      have a1 : (0 : Int) ≤ (k : Int) := by omega
      have a2 : (k : Int) < (n : Int) := by omega
      clear hy hc0
      by_cases hyx : y < x
      · have d1 : decide (y < x) = true := decide_eq_true hyx
        have HN := hide (show ∀ (j : Nat) (z : Int), j < k + 1 → ys[j]? = some z → idK z < x from fun j z hj hz => by
          rcases Nat.lt_or_ge j k with h | h
          · exact HI.out j z h hz
          · obtain rfl : j = k := by omega
            rw [HY.out] at hz
            injection hz with hz
            subst hz
            exact hyx)
        go_wp2_with fail
        go_roundw
        case rel => exact ⟨k + 1, by go_num, by omega, HN, by first | rfl | trivial⟩
        case measure => simp [RowKit.intOf]; omega
      · have d1 : decide (y < x) = false := decide_eq_false hyx
        have hup : ∀ (j : Nat) (z : Int), k ≤ j → ys[j]? = some z → x ≤ idK z := fun j z hj hz => by
          rcases Nat.lt_or_ge k j with h | h
          · have h4 := List.getElem?_eq_some_iff.1 hz
            have h5 := List.getElem?_eq_some_iff.1 HY.out
            have h6 := List.pairwise_iff_getElem.1 HO.out k j h5.1 h4.1 h
            rw [h4.2, h5.2] at h6
            unfold idK at h6 ⊢
            omega
          · obtain rfl : j = k := by omega
            rw [HY.out] at hz
            injection hz with hz
            subst hz
            show x ≤ y
            omega
        have HCN := hide (cnt_is (κ := idK) (l := ys) (k := x) (i := k) (by rw [HS.out.1.1]; exact hk) HI.out hup)
        clear hup
        by_cases he : y = x
        · have e0 : (y == x) = true := beq_iff_eq.2 he
          have HP := hide (show put idK ys x = ys by unfold put; rw [if_pos (by rw [← he]; exact List.mem_of_getElem? HY.out)])
          have hyx2 : x ≤ y := by omega
          clear he hyx
          go_wp2_with fail
          go_ret
          exact ⟨_, c, by rw [HP.out, HS.out.1.1]; rfl, by rw [HP.out, HS.out.1.1]; exact HS.out, Below.refl _ _⟩
        · have e0 : (y == x) = false := beq_eq_false_iff_ne.2 he
          have HP := hide (show put idK ys x = insA ys k x from put_ins (fun hm => he (by
            have h3 := (HO.out.found x).1 ⟨x, hm, rfl⟩
            rw [← HCN.out, HY.out] at h3
            obtain ⟨z, hz, hzx⟩ := h3
            injection hz with hz
            rw [hz]; exact hzx)) HCN.out)
          have b1 : ¬ (c = k) := by omega
          have b2_ : (k : Int) ≤ (n : Int) := by omega
          have b3 : (k : Int) ≤ (c : Int) := by omega
          clear he hyx
          have LT := hide (show (flatE eI (ys.take k)).length = k * 1 by rw [flatE_len, List.length_take, HS.out.1.1, Nat.min_eq_left (by omega)]; rfl)
          have LD := hide (show (flatE eI (ys.drop k)).length = (n - k) * 1 by rw [flatE_len, List.length_drop, HS.out.1.1]; rfl)
          have ST := hide (fun (W : World) (h : Below w.heap.size w W) => srcI ((HS.out.1.keep h).toI (show k ≤ n by omega)))
          have LD3 := hide (fun (W : World) (h : Below w.heap.size w W) => srcI ((HS.out.1.keep h).fromI hlt))
          have b4 : 0 + k ≤ 1000000 := by omega
          have b5 : 0 + k + 1 ≤ 1000000 := by omega
          have b6 : 0 + k + 1 + (n - k) ≤ 1000000 := by omega
          have mixed : Try.prog.follows Departure.mixedOrders = true := by kernel_rfl
          go_wp2_with fail
          go_region_law (first
                    | (refine step_app_ow rfl _ _ 37 rfl w.heap.size 3 _ 1 8 Try.underlying37 infoI1 rfl (by decide) (some ⟨w.heap.size, 0, none⟩) 0 0 [] (by first | (simp [Act.eval]; done) | fail) (own_lit (by ((repeat (first | (with_reducible assumption) | (with_reducible exact Box.new _ _ _) | (with_reducible refine bxD ?_) | (with_reducible exact newE _ _ _ (by first | rfl | (simp; done))) | (with_reducible refine bxA ?_ _))); (first | done | fail))) (by first | exact Nat.le_refl _ | exact Nat.le_succ _)) (some ⟨b, o, none⟩) k c (flatE eI (ys.take k)) (by first | (simp [Act.eval]; done) | fail) LT.out (ST.out _ (by ((repeat (first | (with_reducible assumption) | (with_reducible exact Below.refl _ _) | (with_reducible refine Below.drewS ?_) | (with_reducible refine Below.allocS ?_ _))); (first | done | fail)))) (flatE_one _) (by decide) b4 (Below.size (B := w.heap.size) (w := w) (by ((repeat (first | (with_reducible assumption) | (with_reducible exact Below.refl _ _) | (with_reducible refine Below.drewS ?_) | (with_reducible refine Below.allocS ?_ _))); (first | done | fail)))) ?_; intro A3 c3 w2 r1 r2 r3; have t2 := Turn.onto (W := w) (by ((repeat (first | (with_reducible assumption) | (with_reducible exact Below.refl _ _) | (with_reducible refine Below.drewS ?_) | (with_reducible refine Below.allocS ?_ _))); (first | done | fail))) r2 (fun kk hk => by rw [blk_some] at hk; omega); have R1 := hide (fun (W : World) (h : Below w2.heap.size w2 W) => (Turn.of (F := Non) h).owns r1 (fun _ _ h => h)))
                    | (refine step_app_ow rfl _ _ 37 rfl w.heap.size 3 _ 1 8 Try.underlying37 infoI1 rfl (by decide) (some ⟨w.heap.size + 1, 0, none⟩) 0 0 [] (by first | (simp [Act.eval]; done) | fail) (own_lit (by ((repeat (first | (with_reducible assumption) | (with_reducible exact Box.new _ _ _) | (with_reducible refine bxD ?_) | (with_reducible exact newE _ _ _ (by first | rfl | (simp; done))) | (with_reducible refine bxA ?_ _))); (first | done | fail))) (by first | exact Nat.le_refl _ | exact Nat.le_succ _)) (some ⟨b, o, none⟩) k c (flatE eI (ys.take k)) (by first | (simp [Act.eval]; done) | fail) LT.out (ST.out _ (by ((repeat (first | (with_reducible assumption) | (with_reducible exact Below.refl _ _) | (with_reducible refine Below.drewS ?_) | (with_reducible refine Below.allocS ?_ _))); (first | done | fail)))) (flatE_one _) (by decide) b4 (Below.size (B := w.heap.size) (w := w) (by ((repeat (first | (with_reducible assumption) | (with_reducible exact Below.refl _ _) | (with_reducible refine Below.drewS ?_) | (with_reducible refine Below.allocS ?_ _))); (first | done | fail)))) ?_; intro A3 c3 w2 r1 r2 r3; have t2 := Turn.onto (W := w) (by ((repeat (first | (with_reducible assumption) | (with_reducible exact Below.refl _ _) | (with_reducible refine Below.drewS ?_) | (with_reducible refine Below.allocS ?_ _))); (first | done | fail))) r2 (fun kk hk => by rw [blk_some] at hk; omega); have R1 := hide (fun (W : World) (h : Below w2.heap.size w2 W) => (Turn.of (F := Non) h).owns r1 (fun _ _ h => h)))
                    | (refine step_app_ow rfl _ _ 37 rfl w.heap.size 3 _ 1 8 Try.underlying37 infoI1 rfl (by decide) A3 (0 + k) c3 ([] ++ flatE eI (ys.take k)) (by first | (simp [Act.eval]; done) | fail) (R1.out _ (by ((repeat (first | (with_reducible assumption) | (with_reducible exact Below.refl _ _) | (with_reducible refine Below.drewS ?_) | (with_reducible refine Below.allocS ?_ _))); (first | done | fail)))) (some ⟨w2.heap.size, 0, none⟩) 1 1 (eI.enc x) (by first | (simp [Act.eval]; done) | fail) rfl (fun _ => ⟨_, rfl, litI (by ((repeat (first | (with_reducible assumption) | (with_reducible exact Box.new _ _ _) | (with_reducible refine bxD ?_) | (with_reducible exact newE _ _ _ (by first | rfl | (simp; done))) | (with_reducible refine bxA ?_ _))); (first | done | fail)))⟩) (fun uu hu => eI.one x uu hu) (by decide) b5 (Nat.le_trans t2.size (Below.size (B := w2.heap.size) (w := w2) (by ((repeat (first | (with_reducible assumption) | (with_reducible exact Below.refl _ _) | (with_reducible refine Below.drewS ?_) | (with_reducible refine Below.allocS ?_ _))); (first | done | fail))))) ?_; intro A4 c4 w3 q1 q2 q3; have t3 := Turn.onto (W := w) (Below.next t2 (by ((repeat (first | (with_reducible assumption) | (with_reducible exact Below.refl _ _) | (with_reducible refine Below.drewS ?_) | (with_reducible refine Below.allocS ?_ _))); (first | done | fail)))) q2 (fun kk hk => (owns_blk r1 kk hk).1))
                    | (refine step_app_ow rfl _ _ 37 rfl w.heap.size 3 _ 1 8 Try.underlying37 infoI1 rfl (by decide) A3 (0 + k) c3 ([] ++ flatE eI (ys.take k)) (by first | (simp [Act.eval]; done) | fail) (R1.out _ (by ((repeat (first | (with_reducible assumption) | (with_reducible exact Below.refl _ _) | (with_reducible refine Below.drewS ?_) | (with_reducible refine Below.allocS ?_ _))); (first | done | fail)))) (some ⟨w.heap.size + 1, 0, none⟩) 1 1 (eI.enc x) (by first | (simp [Act.eval]; done) | fail) rfl (fun _ => ⟨_, rfl, litI (r2.box (by ((repeat (first | (with_reducible assumption) | (with_reducible exact Box.new _ _ _) | (with_reducible refine bxD ?_) | (with_reducible exact newE _ _ _ (by first | rfl | (simp; done))) | (with_reducible refine bxA ?_ _))); (first | done | fail))) (by rw [blk_some]; omega))⟩) (fun uu hu => eI.one x uu hu) (by decide) b5 (Nat.le_trans t2.size (Below.size (B := w2.heap.size) (w := w2) (by ((repeat (first | (with_reducible assumption) | (with_reducible exact Below.refl _ _) | (with_reducible refine Below.drewS ?_) | (with_reducible refine Below.allocS ?_ _))); (first | done | fail))))) ?_; intro A4 c4 w3 q1 q2 q3; have t3 := Turn.onto (W := w) (Below.next t2 (by ((repeat (first | (with_reducible assumption) | (with_reducible exact Below.refl _ _) | (with_reducible refine Below.drewS ?_) | (with_reducible refine Below.allocS ?_ _))); (first | done | fail)))) q2 (fun kk hk => (owns_blk r1 kk hk).1))
                    | (refine step_app_ow rfl _ _ 37 rfl w.heap.size 3 _ 1 8 Try.underlying37 infoI1 rfl (by decide) A3 (0 + k) c3 ([] ++ flatE eI (ys.take k)) (by first | (simp [Act.eval]; done) | fail) (R1.out _ (by ((repeat (first | (with_reducible assumption) | (with_reducible exact Below.refl _ _) | (with_reducible refine Below.drewS ?_) | (with_reducible refine Below.allocS ?_ _))); (first | done | fail)))) (some ⟨w.heap.size, 0, none⟩) 1 1 (eI.enc x) (by first | (simp [Act.eval]; done) | fail) rfl (fun _ => ⟨_, rfl, litI (r2.box (by ((repeat (first | (with_reducible assumption) | (with_reducible exact Box.new _ _ _) | (with_reducible refine bxD ?_) | (with_reducible exact newE _ _ _ (by first | rfl | (simp; done))) | (with_reducible refine bxA ?_ _))); (first | done | fail))) (by rw [blk_some]; omega))⟩) (fun uu hu => eI.one x uu hu) (by decide) b5 (Nat.le_trans t2.size (Below.size (B := w2.heap.size) (w := w2) (by ((repeat (first | (with_reducible assumption) | (with_reducible exact Below.refl _ _) | (with_reducible refine Below.drewS ?_) | (with_reducible refine Below.allocS ?_ _))); (first | done | fail))))) ?_; intro A4 c4 w3 q1 q2 q3; have t3 := Turn.onto (W := w) (Below.next t2 (by ((repeat (first | (with_reducible assumption) | (with_reducible exact Below.refl _ _) | (with_reducible refine Below.drewS ?_) | (with_reducible refine Below.allocS ?_ _))); (first | done | fail)))) q2 (fun kk hk => (owns_blk r1 kk hk).1))
                    | (refine step_app_ow rfl _ _ 37 rfl w.heap.size 3 _ 1 8 Try.underlying37 infoI1 rfl (by decide) A4 (0 + k + 1) c4 ([] ++ flatE eI (ys.take k) ++ eI.enc x) (by first | (simp [Act.eval]; done) | fail) q1 (some ⟨b, o + k, none⟩) (n - k) (c - k) (flatE eI (ys.drop k)) (by first | (simp [Act.eval]; done) | fail) LD.out (LD3.out _ t3) (flatE_one _) (by decide) b6 t3.size ?_; intro A5 c5 w4 p1 p2 p3))
          all_goals
            have e2 : 0 + k + 1 + (n - k) = (put idK ys x).length := by rw [HP.out, insA_len x (by rw [HS.out.1.1]; omega), HS.out.1.1] <;> omega
            have e3 : [] ++ flatE eI (ys.take k) ++ eI.enc x ++ flatE eI (ys.drop k) = flatE eI (put idK ys x) := by rw [HP.out, insA_flat, List.nil_append]
            have R := hide (show Ow eI w4 w.heap.size A5 (put idK ys x).length c5 (put idK ys x) by rw [e3, e2] at p1; exact p1)
            have t4 := hide (Turn.onto t3 p2 (fun kk hk => (owns_blk q1 kk hk).1))
            have E2 := hide (show k + 1 + (n - k) = (put idK ys x).length by rw [← e2] <;> omega)
            clear r1 r2 r3 q1 q2 q3 p1 p2 p3 t2 t3 R1 e2 e3
            go_wp2_with fail
            go_ret
            exact ⟨A5, c5, by rw [← E2.out]; rfl, R.out.sk, t4.out⟩

    · obtain rfl : k = n := by omega
      have d0 : decide ((k : Int) < (k : Int)) = false := decide_eq_false (by omega)
      have hd0 : ys.drop k = [] := List.drop_of_length_le (by rw [HS.out.1.1]; exact Nat.le_refl _)
      have HP := hide (show put idK ys x = insA ys k x from put_ins (fun hm => by
        obtain ⟨j, hj⟩ := List.mem_iff_getElem?.1 hm
        have h1 := HI.out j x (by rw [← HS.out.1.1]; exact (List.getElem?_eq_some_iff.1 hj).1) hj
        exact Int.lt_irrefl _ h1) (cnt_is (by rw [HS.out.1.1]; exact Nat.le_refl _) HI.out (fun j z hj hz => by
          have h2 := (List.getElem?_eq_some_iff.1 hz).1
          rw [HS.out.1.1] at h2
          omega)))
      clear hlt hd0
      cases A with
      | none =>
        have h0 : k = 0 := by
          rcases Nat.eq_zero_or_pos k with h | h
          · exact h
          · obtain ⟨b, o, e, _⟩ := HS.out.1.base h; cases e
        subst h0
        have b3 : (0 : Int) ≤ (c : Int) := by omega
        have LT := hide (show (flatE eI (ys.take 0)).length = 0 * 1 by rw [flatE_len, List.length_take, HS.out.1.1, Nat.min_eq_left (by omega)]; rfl)
        have LD := hide (show (flatE eI (ys.drop 0)).length = (0) * 1 by rw [flatE_len, List.length_drop, HS.out.1.1]; show (0 - 0) * 1 = 0 * 1; rw [Nat.sub_self])
        have ST := hide (fun (W : World) (h : Below w.heap.size w W) => srcI ((HS.out.1.keep h).toI (show 0 ≤ 0 by omega)))
        have b4 : 0 + 0 ≤ 1000000 := by omega
        have b5 : 0 + 0 + 1 ≤ 1000000 := by omega
        have b6 : 0 + 0 + 1 + (0) ≤ 1000000 := by omega
        have mixed : Try.prog.follows Departure.mixedOrders = true := by kernel_rfl
        go_wp2_with fail
        go_region_law (first
                  | (refine step_app_ow rfl _ _ 37 rfl w.heap.size 3 _ 1 8 Try.underlying37 infoI1 rfl (by decide) (some ⟨w.heap.size, 0, none⟩) 0 0 [] (by first | (simp [Act.eval]; done) | fail) (own_lit (by ((repeat (first | (with_reducible assumption) | (with_reducible exact Box.new _ _ _) | (with_reducible refine bxD ?_) | (with_reducible exact newE _ _ _ (by first | rfl | (simp; done))) | (with_reducible refine bxA ?_ _))); (first | done | fail))) (by first | exact Nat.le_refl _ | exact Nat.le_succ _)) none 0 c (flatE eI (ys.take 0)) (by first | (simp [Act.eval]; done) | fail) LT.out (ST.out _ (by ((repeat (first | (with_reducible assumption) | (with_reducible exact Below.refl _ _) | (with_reducible refine Below.drewS ?_) | (with_reducible refine Below.allocS ?_ _))); (first | done | fail)))) (flatE_one _) (by decide) b4 (Below.size (B := w.heap.size) (w := w) (by ((repeat (first | (with_reducible assumption) | (with_reducible exact Below.refl _ _) | (with_reducible refine Below.drewS ?_) | (with_reducible refine Below.allocS ?_ _))); (first | done | fail)))) ?_; intro A3 c3 w2 r1 r2 r3; have t2 := Turn.onto (W := w) (by ((repeat (first | (with_reducible assumption) | (with_reducible exact Below.refl _ _) | (with_reducible refine Below.drewS ?_) | (with_reducible refine Below.allocS ?_ _))); (first | done | fail))) r2 (fun kk hk => by rw [blk_some] at hk; omega); have R1 := hide (fun (W : World) (h : Below w2.heap.size w2 W) => (Turn.of (F := Non) h).owns r1 (fun _ _ h => h)))
                  | (refine step_app_ow rfl _ _ 37 rfl w.heap.size 3 _ 1 8 Try.underlying37 infoI1 rfl (by decide) (some ⟨w.heap.size + 1, 0, none⟩) 0 0 [] (by first | (simp [Act.eval]; done) | fail) (own_lit (by ((repeat (first | (with_reducible assumption) | (with_reducible exact Box.new _ _ _) | (with_reducible refine bxD ?_) | (with_reducible exact newE _ _ _ (by first | rfl | (simp; done))) | (with_reducible refine bxA ?_ _))); (first | done | fail))) (by first | exact Nat.le_refl _ | exact Nat.le_succ _)) none 0 c (flatE eI (ys.take 0)) (by first | (simp [Act.eval]; done) | fail) LT.out (ST.out _ (by ((repeat (first | (with_reducible assumption) | (with_reducible exact Below.refl _ _) | (with_reducible refine Below.drewS ?_) | (with_reducible refine Below.allocS ?_ _))); (first | done | fail)))) (flatE_one _) (by decide) b4 (Below.size (B := w.heap.size) (w := w) (by ((repeat (first | (with_reducible assumption) | (with_reducible exact Below.refl _ _) | (with_reducible refine Below.drewS ?_) | (with_reducible refine Below.allocS ?_ _))); (first | done | fail)))) ?_; intro A3 c3 w2 r1 r2 r3; have t2 := Turn.onto (W := w) (by ((repeat (first | (with_reducible assumption) | (with_reducible exact Below.refl _ _) | (with_reducible refine Below.drewS ?_) | (with_reducible refine Below.allocS ?_ _))); (first | done | fail))) r2 (fun kk hk => by rw [blk_some] at hk; omega); have R1 := hide (fun (W : World) (h : Below w2.heap.size w2 W) => (Turn.of (F := Non) h).owns r1 (fun _ _ h => h)))
                  | (refine step_app_ow rfl _ _ 37 rfl w.heap.size 3 _ 1 8 Try.underlying37 infoI1 rfl (by decide) A3 (0 + 0) c3 ([] ++ flatE eI (ys.take 0)) (by first | (simp [Act.eval]; done) | fail) (R1.out _ (by ((repeat (first | (with_reducible assumption) | (with_reducible exact Below.refl _ _) | (with_reducible refine Below.drewS ?_) | (with_reducible refine Below.allocS ?_ _))); (first | done | fail)))) (some ⟨w2.heap.size, 0, none⟩) 1 1 (eI.enc x) (by first | (simp [Act.eval]; done) | fail) rfl (fun _ => ⟨_, rfl, litI (by ((repeat (first | (with_reducible assumption) | (with_reducible exact Box.new _ _ _) | (with_reducible refine bxD ?_) | (with_reducible exact newE _ _ _ (by first | rfl | (simp; done))) | (with_reducible refine bxA ?_ _))); (first | done | fail)))⟩) (fun uu hu => eI.one x uu hu) (by decide) b5 (Nat.le_trans t2.size (Below.size (B := w2.heap.size) (w := w2) (by ((repeat (first | (with_reducible assumption) | (with_reducible exact Below.refl _ _) | (with_reducible refine Below.drewS ?_) | (with_reducible refine Below.allocS ?_ _))); (first | done | fail))))) ?_; intro A4 c4 w3 q1 q2 q3; have t3 := Turn.onto (W := w) (Below.next t2 (by ((repeat (first | (with_reducible assumption) | (with_reducible exact Below.refl _ _) | (with_reducible refine Below.drewS ?_) | (with_reducible refine Below.allocS ?_ _))); (first | done | fail)))) q2 (fun kk hk => (owns_blk r1 kk hk).1))
                  | (refine step_app_ow rfl _ _ 37 rfl w.heap.size 3 _ 1 8 Try.underlying37 infoI1 rfl (by decide) A3 (0 + 0) c3 ([] ++ flatE eI (ys.take 0)) (by first | (simp [Act.eval]; done) | fail) (R1.out _ (by ((repeat (first | (with_reducible assumption) | (with_reducible exact Below.refl _ _) | (with_reducible refine Below.drewS ?_) | (with_reducible refine Below.allocS ?_ _))); (first | done | fail)))) (some ⟨w.heap.size + 1, 0, none⟩) 1 1 (eI.enc x) (by first | (simp [Act.eval]; done) | fail) rfl (fun _ => ⟨_, rfl, litI (r2.box (by ((repeat (first | (with_reducible assumption) | (with_reducible exact Box.new _ _ _) | (with_reducible refine bxD ?_) | (with_reducible exact newE _ _ _ (by first | rfl | (simp; done))) | (with_reducible refine bxA ?_ _))); (first | done | fail))) (by rw [blk_some]; omega))⟩) (fun uu hu => eI.one x uu hu) (by decide) b5 (Nat.le_trans t2.size (Below.size (B := w2.heap.size) (w := w2) (by ((repeat (first | (with_reducible assumption) | (with_reducible exact Below.refl _ _) | (with_reducible refine Below.drewS ?_) | (with_reducible refine Below.allocS ?_ _))); (first | done | fail))))) ?_; intro A4 c4 w3 q1 q2 q3; have t3 := Turn.onto (W := w) (Below.next t2 (by ((repeat (first | (with_reducible assumption) | (with_reducible exact Below.refl _ _) | (with_reducible refine Below.drewS ?_) | (with_reducible refine Below.allocS ?_ _))); (first | done | fail)))) q2 (fun kk hk => (owns_blk r1 kk hk).1))
                  | (refine step_app_ow rfl _ _ 37 rfl w.heap.size 3 _ 1 8 Try.underlying37 infoI1 rfl (by decide) A3 (0 + 0) c3 ([] ++ flatE eI (ys.take 0)) (by first | (simp [Act.eval]; done) | fail) (R1.out _ (by ((repeat (first | (with_reducible assumption) | (with_reducible exact Below.refl _ _) | (with_reducible refine Below.drewS ?_) | (with_reducible refine Below.allocS ?_ _))); (first | done | fail)))) (some ⟨w.heap.size, 0, none⟩) 1 1 (eI.enc x) (by first | (simp [Act.eval]; done) | fail) rfl (fun _ => ⟨_, rfl, litI (r2.box (by ((repeat (first | (with_reducible assumption) | (with_reducible exact Box.new _ _ _) | (with_reducible refine bxD ?_) | (with_reducible exact newE _ _ _ (by first | rfl | (simp; done))) | (with_reducible refine bxA ?_ _))); (first | done | fail))) (by rw [blk_some]; omega))⟩) (fun uu hu => eI.one x uu hu) (by decide) b5 (Nat.le_trans t2.size (Below.size (B := w2.heap.size) (w := w2) (by ((repeat (first | (with_reducible assumption) | (with_reducible exact Below.refl _ _) | (with_reducible refine Below.drewS ?_) | (with_reducible refine Below.allocS ?_ _))); (first | done | fail))))) ?_; intro A4 c4 w3 q1 q2 q3; have t3 := Turn.onto (W := w) (Below.next t2 (by ((repeat (first | (with_reducible assumption) | (with_reducible exact Below.refl _ _) | (with_reducible refine Below.drewS ?_) | (with_reducible refine Below.allocS ?_ _))); (first | done | fail)))) q2 (fun kk hk => (owns_blk r1 kk hk).1))
                  | (refine step_app_ow rfl _ _ 37 rfl w.heap.size 3 _ 1 8 Try.underlying37 infoI1 rfl (by decide) A4 (0 + 0 + 1) c4 ([] ++ flatE eI (ys.take 0) ++ eI.enc x) (by first | (simp [Act.eval]; done) | fail) q1 none (0) c (flatE eI (ys.drop 0)) (by first | (simp [Act.eval]; done) | fail) LD.out (fun h => absurd h (by decide)) (flatE_one _) (by decide) b6 t3.size ?_; intro A5 c5 w4 p1 p2 p3))
        all_goals
          have e2 : 0 + 0 + 1 + (0) = (put idK ys x).length := by rw [HP.out, insA_len x (by rw [HS.out.1.1]; omega), HS.out.1.1] <;> omega
          have e3 : [] ++ flatE eI (ys.take 0) ++ eI.enc x ++ flatE eI (ys.drop 0) = flatE eI (put idK ys x) := by rw [HP.out, insA_flat, List.nil_append]
          have R := hide (show Ow eI w4 w.heap.size A5 (put idK ys x).length c5 (put idK ys x) by rw [e3, e2] at p1; exact p1)
          have t4 := hide (Turn.onto t3 p2 (fun kk hk => (owns_blk q1 kk hk).1))
          have E2 := hide (show 0 + 1 = (put idK ys x).length by rw [← e2] <;> omega)
          clear r1 r2 r3 q1 q2 q3 p1 p2 p3 t2 t3 R1 e2 e3
          go_wp2_with fail
          go_ret
          exact ⟨A5, c5, by rw [← E2.out]; rfl, R.out.sk, t4.out⟩

      | some a =>
        obtain ⟨b, o, sp⟩ := a
        have hsp : sp = none := HS.out.2.2.2 b o sp rfl
        subst hsp
        have b3 : (k : Int) ≤ (c : Int) := by omega
        have b2_ : (k : Int) ≤ (k : Int) := by omega
        by_cases hcc : c = k
        · obtain rfl : k = c := hcc.symm
          have LT := hide (show (flatE eI (ys.take k)).length = k * 1 by rw [flatE_len, List.length_take, HS.out.1.1, Nat.min_eq_left (by omega)]; rfl)
          have LD := hide (show (flatE eI (ys.drop k)).length = (0) * 1 by rw [flatE_len, List.length_drop, HS.out.1.1]; show (k - k) * 1 = 0 * 1; rw [Nat.sub_self])
          have ST := hide (fun (W : World) (h : Below w.heap.size w W) => srcI ((HS.out.1.keep h).toI (show k ≤ k by omega)))
          have b4 : 0 + k ≤ 1000000 := by omega
          have b5 : 0 + k + 1 ≤ 1000000 := by omega
          have b6 : 0 + k + 1 + (0) ≤ 1000000 := by omega
          have mixed : Try.prog.follows Departure.mixedOrders = true := by kernel_rfl
          go_wp2_with fail
          go_region_law (first
                    | (refine step_app_ow rfl _ _ 37 rfl w.heap.size 3 _ 1 8 Try.underlying37 infoI1 rfl (by decide) (some ⟨w.heap.size, 0, none⟩) 0 0 [] (by first | (simp [Act.eval]; done) | fail) (own_lit (by ((repeat (first | (with_reducible assumption) | (with_reducible exact Box.new _ _ _) | (with_reducible refine bxD ?_) | (with_reducible exact newE _ _ _ (by first | rfl | (simp; done))) | (with_reducible refine bxA ?_ _))); (first | done | fail))) (by first | exact Nat.le_refl _ | exact Nat.le_succ _)) (some ⟨b, o, none⟩) k k (flatE eI (ys.take k)) (by first | (simp [Act.eval]; done) | fail) LT.out (ST.out _ (by ((repeat (first | (with_reducible assumption) | (with_reducible exact Below.refl _ _) | (with_reducible refine Below.drewS ?_) | (with_reducible refine Below.allocS ?_ _))); (first | done | fail)))) (flatE_one _) (by decide) b4 (Below.size (B := w.heap.size) (w := w) (by ((repeat (first | (with_reducible assumption) | (with_reducible exact Below.refl _ _) | (with_reducible refine Below.drewS ?_) | (with_reducible refine Below.allocS ?_ _))); (first | done | fail)))) ?_; intro A3 c3 w2 r1 r2 r3; have t2 := Turn.onto (W := w) (by ((repeat (first | (with_reducible assumption) | (with_reducible exact Below.refl _ _) | (with_reducible refine Below.drewS ?_) | (with_reducible refine Below.allocS ?_ _))); (first | done | fail))) r2 (fun kk hk => by rw [blk_some] at hk; omega); have R1 := hide (fun (W : World) (h : Below w2.heap.size w2 W) => (Turn.of (F := Non) h).owns r1 (fun _ _ h => h)))
                    | (refine step_app_ow rfl _ _ 37 rfl w.heap.size 3 _ 1 8 Try.underlying37 infoI1 rfl (by decide) (some ⟨w.heap.size + 1, 0, none⟩) 0 0 [] (by first | (simp [Act.eval]; done) | fail) (own_lit (by ((repeat (first | (with_reducible assumption) | (with_reducible exact Box.new _ _ _) | (with_reducible refine bxD ?_) | (with_reducible exact newE _ _ _ (by first | rfl | (simp; done))) | (with_reducible refine bxA ?_ _))); (first | done | fail))) (by first | exact Nat.le_refl _ | exact Nat.le_succ _)) (some ⟨b, o, none⟩) k k (flatE eI (ys.take k)) (by first | (simp [Act.eval]; done) | fail) LT.out (ST.out _ (by ((repeat (first | (with_reducible assumption) | (with_reducible exact Below.refl _ _) | (with_reducible refine Below.drewS ?_) | (with_reducible refine Below.allocS ?_ _))); (first | done | fail)))) (flatE_one _) (by decide) b4 (Below.size (B := w.heap.size) (w := w) (by ((repeat (first | (with_reducible assumption) | (with_reducible exact Below.refl _ _) | (with_reducible refine Below.drewS ?_) | (with_reducible refine Below.allocS ?_ _))); (first | done | fail)))) ?_; intro A3 c3 w2 r1 r2 r3; have t2 := Turn.onto (W := w) (by ((repeat (first | (with_reducible assumption) | (with_reducible exact Below.refl _ _) | (with_reducible refine Below.drewS ?_) | (with_reducible refine Below.allocS ?_ _))); (first | done | fail))) r2 (fun kk hk => by rw [blk_some] at hk; omega); have R1 := hide (fun (W : World) (h : Below w2.heap.size w2 W) => (Turn.of (F := Non) h).owns r1 (fun _ _ h => h)))
                    | (refine step_app_ow rfl _ _ 37 rfl w.heap.size 3 _ 1 8 Try.underlying37 infoI1 rfl (by decide) A3 (0 + k) c3 ([] ++ flatE eI (ys.take k)) (by first | (simp [Act.eval]; done) | fail) (R1.out _ (by ((repeat (first | (with_reducible assumption) | (with_reducible exact Below.refl _ _) | (with_reducible refine Below.drewS ?_) | (with_reducible refine Below.allocS ?_ _))); (first | done | fail)))) (some ⟨w2.heap.size, 0, none⟩) 1 1 (eI.enc x) (by first | (simp [Act.eval]; done) | fail) rfl (fun _ => ⟨_, rfl, litI (by ((repeat (first | (with_reducible assumption) | (with_reducible exact Box.new _ _ _) | (with_reducible refine bxD ?_) | (with_reducible exact newE _ _ _ (by first | rfl | (simp; done))) | (with_reducible refine bxA ?_ _))); (first | done | fail)))⟩) (fun uu hu => eI.one x uu hu) (by decide) b5 (Nat.le_trans t2.size (Below.size (B := w2.heap.size) (w := w2) (by ((repeat (first | (with_reducible assumption) | (with_reducible exact Below.refl _ _) | (with_reducible refine Below.drewS ?_) | (with_reducible refine Below.allocS ?_ _))); (first | done | fail))))) ?_; intro A4 c4 w3 q1 q2 q3; have t3 := Turn.onto (W := w) (Below.next t2 (by ((repeat (first | (with_reducible assumption) | (with_reducible exact Below.refl _ _) | (with_reducible refine Below.drewS ?_) | (with_reducible refine Below.allocS ?_ _))); (first | done | fail)))) q2 (fun kk hk => (owns_blk r1 kk hk).1))
                    | (refine step_app_ow rfl _ _ 37 rfl w.heap.size 3 _ 1 8 Try.underlying37 infoI1 rfl (by decide) A3 (0 + k) c3 ([] ++ flatE eI (ys.take k)) (by first | (simp [Act.eval]; done) | fail) (R1.out _ (by ((repeat (first | (with_reducible assumption) | (with_reducible exact Below.refl _ _) | (with_reducible refine Below.drewS ?_) | (with_reducible refine Below.allocS ?_ _))); (first | done | fail)))) (some ⟨w.heap.size + 1, 0, none⟩) 1 1 (eI.enc x) (by first | (simp [Act.eval]; done) | fail) rfl (fun _ => ⟨_, rfl, litI (r2.box (by ((repeat (first | (with_reducible assumption) | (with_reducible exact Box.new _ _ _) | (with_reducible refine bxD ?_) | (with_reducible exact newE _ _ _ (by first | rfl | (simp; done))) | (with_reducible refine bxA ?_ _))); (first | done | fail))) (by rw [blk_some]; omega))⟩) (fun uu hu => eI.one x uu hu) (by decide) b5 (Nat.le_trans t2.size (Below.size (B := w2.heap.size) (w := w2) (by ((repeat (first | (with_reducible assumption) | (with_reducible exact Below.refl _ _) | (with_reducible refine Below.drewS ?_) | (with_reducible refine Below.allocS ?_ _))); (first | done | fail))))) ?_; intro A4 c4 w3 q1 q2 q3; have t3 := Turn.onto (W := w) (Below.next t2 (by ((repeat (first | (with_reducible assumption) | (with_reducible exact Below.refl _ _) | (with_reducible refine Below.drewS ?_) | (with_reducible refine Below.allocS ?_ _))); (first | done | fail)))) q2 (fun kk hk => (owns_blk r1 kk hk).1))
                    | (refine step_app_ow rfl _ _ 37 rfl w.heap.size 3 _ 1 8 Try.underlying37 infoI1 rfl (by decide) A3 (0 + k) c3 ([] ++ flatE eI (ys.take k)) (by first | (simp [Act.eval]; done) | fail) (R1.out _ (by ((repeat (first | (with_reducible assumption) | (with_reducible exact Below.refl _ _) | (with_reducible refine Below.drewS ?_) | (with_reducible refine Below.allocS ?_ _))); (first | done | fail)))) (some ⟨w.heap.size, 0, none⟩) 1 1 (eI.enc x) (by first | (simp [Act.eval]; done) | fail) rfl (fun _ => ⟨_, rfl, litI (r2.box (by ((repeat (first | (with_reducible assumption) | (with_reducible exact Box.new _ _ _) | (with_reducible refine bxD ?_) | (with_reducible exact newE _ _ _ (by first | rfl | (simp; done))) | (with_reducible refine bxA ?_ _))); (first | done | fail))) (by rw [blk_some]; omega))⟩) (fun uu hu => eI.one x uu hu) (by decide) b5 (Nat.le_trans t2.size (Below.size (B := w2.heap.size) (w := w2) (by ((repeat (first | (with_reducible assumption) | (with_reducible exact Below.refl _ _) | (with_reducible refine Below.drewS ?_) | (with_reducible refine Below.allocS ?_ _))); (first | done | fail))))) ?_; intro A4 c4 w3 q1 q2 q3; have t3 := Turn.onto (W := w) (Below.next t2 (by ((repeat (first | (with_reducible assumption) | (with_reducible exact Below.refl _ _) | (with_reducible refine Below.drewS ?_) | (with_reducible refine Below.allocS ?_ _))); (first | done | fail)))) q2 (fun kk hk => (owns_blk r1 kk hk).1))
                    | (refine step_app_ow rfl _ _ 37 rfl w.heap.size 3 _ 1 8 Try.underlying37 infoI1 rfl (by decide) A4 (0 + k + 1) c4 ([] ++ flatE eI (ys.take k) ++ eI.enc x) (by first | (simp [Act.eval]; done) | fail) q1 (some ⟨b, o, none⟩) (0) 0 (flatE eI (ys.drop k)) (by first | (simp [Act.eval]; done) | fail) LD.out (fun h => absurd h (by decide)) (flatE_one _) (by decide) b6 t3.size ?_; intro A5 c5 w4 p1 p2 p3))
          all_goals
            have e2 : 0 + k + 1 + (0) = (put idK ys x).length := by rw [HP.out, insA_len x (by rw [HS.out.1.1]; omega), HS.out.1.1] <;> omega
            have e3 : [] ++ flatE eI (ys.take k) ++ eI.enc x ++ flatE eI (ys.drop k) = flatE eI (put idK ys x) := by rw [HP.out, insA_flat, List.nil_append]
            have R := hide (show Ow eI w4 w.heap.size A5 (put idK ys x).length c5 (put idK ys x) by rw [e3, e2] at p1; exact p1)
            have t4 := hide (Turn.onto t3 p2 (fun kk hk => (owns_blk q1 kk hk).1))
            have E2 := hide (show k + 1 = (put idK ys x).length by rw [← e2] <;> omega)
            clear r1 r2 r3 q1 q2 q3 p1 p2 p3 t2 t3 R1 e2 e3
            go_wp2_with fail
            go_ret
            exact ⟨A5, c5, by rw [← E2.out]; rfl, R.out.sk, t4.out⟩

        · have b1 : ¬ (c = k) := hcc
          have LT := hide (show (flatE eI (ys.take k)).length = k * 1 by rw [flatE_len, List.length_take, HS.out.1.1, Nat.min_eq_left (by omega)]; rfl)
          have LD := hide (show (flatE eI (ys.drop k)).length = (0) * 1 by rw [flatE_len, List.length_drop, HS.out.1.1]; show (k - k) * 1 = 0 * 1; rw [Nat.sub_self])
          have ST := hide (fun (W : World) (h : Below w.heap.size w W) => srcI ((HS.out.1.keep h).toI (show k ≤ k by omega)))
          have b4 : 0 + k ≤ 1000000 := by omega
          have b5 : 0 + k + 1 ≤ 1000000 := by omega
          have b6 : 0 + k + 1 + (0) ≤ 1000000 := by omega
          have mixed : Try.prog.follows Departure.mixedOrders = true := by kernel_rfl
          go_wp2_with fail
          go_region_law (first
                    | (refine step_app_ow rfl _ _ 37 rfl w.heap.size 3 _ 1 8 Try.underlying37 infoI1 rfl (by decide) (some ⟨w.heap.size, 0, none⟩) 0 0 [] (by first | (simp [Act.eval]; done) | fail) (own_lit (by ((repeat (first | (with_reducible assumption) | (with_reducible exact Box.new _ _ _) | (with_reducible refine bxD ?_) | (with_reducible exact newE _ _ _ (by first | rfl | (simp; done))) | (with_reducible refine bxA ?_ _))); (first | done | fail))) (by first | exact Nat.le_refl _ | exact Nat.le_succ _)) (some ⟨b, o, none⟩) k c (flatE eI (ys.take k)) (by first | (simp [Act.eval]; done) | fail) LT.out (ST.out _ (by ((repeat (first | (with_reducible assumption) | (with_reducible exact Below.refl _ _) | (with_reducible refine Below.drewS ?_) | (with_reducible refine Below.allocS ?_ _))); (first | done | fail)))) (flatE_one _) (by decide) b4 (Below.size (B := w.heap.size) (w := w) (by ((repeat (first | (with_reducible assumption) | (with_reducible exact Below.refl _ _) | (with_reducible refine Below.drewS ?_) | (with_reducible refine Below.allocS ?_ _))); (first | done | fail)))) ?_; intro A3 c3 w2 r1 r2 r3; have t2 := Turn.onto (W := w) (by ((repeat (first | (with_reducible assumption) | (with_reducible exact Below.refl _ _) | (with_reducible refine Below.drewS ?_) | (with_reducible refine Below.allocS ?_ _))); (first | done | fail))) r2 (fun kk hk => by rw [blk_some] at hk; omega); have R1 := hide (fun (W : World) (h : Below w2.heap.size w2 W) => (Turn.of (F := Non) h).owns r1 (fun _ _ h => h)))
                    | (refine step_app_ow rfl _ _ 37 rfl w.heap.size 3 _ 1 8 Try.underlying37 infoI1 rfl (by decide) (some ⟨w.heap.size + 1, 0, none⟩) 0 0 [] (by first | (simp [Act.eval]; done) | fail) (own_lit (by ((repeat (first | (with_reducible assumption) | (with_reducible exact Box.new _ _ _) | (with_reducible refine bxD ?_) | (with_reducible exact newE _ _ _ (by first | rfl | (simp; done))) | (with_reducible refine bxA ?_ _))); (first | done | fail))) (by first | exact Nat.le_refl _ | exact Nat.le_succ _)) (some ⟨b, o, none⟩) k c (flatE eI (ys.take k)) (by first | (simp [Act.eval]; done) | fail) LT.out (ST.out _ (by ((repeat (first | (with_reducible assumption) | (with_reducible exact Below.refl _ _) | (with_reducible refine Below.drewS ?_) | (with_reducible refine Below.allocS ?_ _))); (first | done | fail)))) (flatE_one _) (by decide) b4 (Below.size (B := w.heap.size) (w := w) (by ((repeat (first | (with_reducible assumption) | (with_reducible exact Below.refl _ _) | (with_reducible refine Below.drewS ?_) | (with_reducible refine Below.allocS ?_ _))); (first | done | fail)))) ?_; intro A3 c3 w2 r1 r2 r3; have t2 := Turn.onto (W := w) (by ((repeat (first | (with_reducible assumption) | (with_reducible exact Below.refl _ _) | (with_reducible refine Below.drewS ?_) | (with_reducible refine Below.allocS ?_ _))); (first | done | fail))) r2 (fun kk hk => by rw [blk_some] at hk; omega); have R1 := hide (fun (W : World) (h : Below w2.heap.size w2 W) => (Turn.of (F := Non) h).owns r1 (fun _ _ h => h)))
                    | (refine step_app_ow rfl _ _ 37 rfl w.heap.size 3 _ 1 8 Try.underlying37 infoI1 rfl (by decide) A3 (0 + k) c3 ([] ++ flatE eI (ys.take k)) (by first | (simp [Act.eval]; done) | fail) (R1.out _ (by ((repeat (first | (with_reducible assumption) | (with_reducible exact Below.refl _ _) | (with_reducible refine Below.drewS ?_) | (with_reducible refine Below.allocS ?_ _))); (first | done | fail)))) (some ⟨w2.heap.size, 0, none⟩) 1 1 (eI.enc x) (by first | (simp [Act.eval]; done) | fail) rfl (fun _ => ⟨_, rfl, litI (by ((repeat (first | (with_reducible assumption) | (with_reducible exact Box.new _ _ _) | (with_reducible refine bxD ?_) | (with_reducible exact newE _ _ _ (by first | rfl | (simp; done))) | (with_reducible refine bxA ?_ _))); (first | done | fail)))⟩) (fun uu hu => eI.one x uu hu) (by decide) b5 (Nat.le_trans t2.size (Below.size (B := w2.heap.size) (w := w2) (by ((repeat (first | (with_reducible assumption) | (with_reducible exact Below.refl _ _) | (with_reducible refine Below.drewS ?_) | (with_reducible refine Below.allocS ?_ _))); (first | done | fail))))) ?_; intro A4 c4 w3 q1 q2 q3; have t3 := Turn.onto (W := w) (Below.next t2 (by ((repeat (first | (with_reducible assumption) | (with_reducible exact Below.refl _ _) | (with_reducible refine Below.drewS ?_) | (with_reducible refine Below.allocS ?_ _))); (first | done | fail)))) q2 (fun kk hk => (owns_blk r1 kk hk).1))
                    | (refine step_app_ow rfl _ _ 37 rfl w.heap.size 3 _ 1 8 Try.underlying37 infoI1 rfl (by decide) A3 (0 + k) c3 ([] ++ flatE eI (ys.take k)) (by first | (simp [Act.eval]; done) | fail) (R1.out _ (by ((repeat (first | (with_reducible assumption) | (with_reducible exact Below.refl _ _) | (with_reducible refine Below.drewS ?_) | (with_reducible refine Below.allocS ?_ _))); (first | done | fail)))) (some ⟨w.heap.size + 1, 0, none⟩) 1 1 (eI.enc x) (by first | (simp [Act.eval]; done) | fail) rfl (fun _ => ⟨_, rfl, litI (r2.box (by ((repeat (first | (with_reducible assumption) | (with_reducible exact Box.new _ _ _) | (with_reducible refine bxD ?_) | (with_reducible exact newE _ _ _ (by first | rfl | (simp; done))) | (with_reducible refine bxA ?_ _))); (first | done | fail))) (by rw [blk_some]; omega))⟩) (fun uu hu => eI.one x uu hu) (by decide) b5 (Nat.le_trans t2.size (Below.size (B := w2.heap.size) (w := w2) (by ((repeat (first | (with_reducible assumption) | (with_reducible exact Below.refl _ _) | (with_reducible refine Below.drewS ?_) | (with_reducible refine Below.allocS ?_ _))); (first | done | fail))))) ?_; intro A4 c4 w3 q1 q2 q3; have t3 := Turn.onto (W := w) (Below.next t2 (by ((repeat (first | (with_reducible assumption) | (with_reducible exact Below.refl _ _) | (with_reducible refine Below.drewS ?_) | (with_reducible refine Below.allocS ?_ _))); (first | done | fail)))) q2 (fun kk hk => (owns_blk r1 kk hk).1))
                    | (refine step_app_ow rfl _ _ 37 rfl w.heap.size 3 _ 1 8 Try.underlying37 infoI1 rfl (by decide) A3 (0 + k) c3 ([] ++ flatE eI (ys.take k)) (by first | (simp [Act.eval]; done) | fail) (R1.out _ (by ((repeat (first | (with_reducible assumption) | (with_reducible exact Below.refl _ _) | (with_reducible refine Below.drewS ?_) | (with_reducible refine Below.allocS ?_ _))); (first | done | fail)))) (some ⟨w.heap.size, 0, none⟩) 1 1 (eI.enc x) (by first | (simp [Act.eval]; done) | fail) rfl (fun _ => ⟨_, rfl, litI (r2.box (by ((repeat (first | (with_reducible assumption) | (with_reducible exact Box.new _ _ _) | (with_reducible refine bxD ?_) | (with_reducible exact newE _ _ _ (by first | rfl | (simp; done))) | (with_reducible refine bxA ?_ _))); (first | done | fail))) (by rw [blk_some]; omega))⟩) (fun uu hu => eI.one x uu hu) (by decide) b5 (Nat.le_trans t2.size (Below.size (B := w2.heap.size) (w := w2) (by ((repeat (first | (with_reducible assumption) | (with_reducible exact Below.refl _ _) | (with_reducible refine Below.drewS ?_) | (with_reducible refine Below.allocS ?_ _))); (first | done | fail))))) ?_; intro A4 c4 w3 q1 q2 q3; have t3 := Turn.onto (W := w) (Below.next t2 (by ((repeat (first | (with_reducible assumption) | (with_reducible exact Below.refl _ _) | (with_reducible refine Below.drewS ?_) | (with_reducible refine Below.allocS ?_ _))); (first | done | fail)))) q2 (fun kk hk => (owns_blk r1 kk hk).1))
                    | (refine step_app_ow rfl _ _ 37 rfl w.heap.size 3 _ 1 8 Try.underlying37 infoI1 rfl (by decide) A4 (0 + k + 1) c4 ([] ++ flatE eI (ys.take k) ++ eI.enc x) (by first | (simp [Act.eval]; done) | fail) q1 (some ⟨b, o + k, none⟩) (0) (c - k) (flatE eI (ys.drop k)) (by first | (simp [Act.eval]; done) | fail) LD.out (fun h => absurd h (by decide)) (flatE_one _) (by decide) b6 t3.size ?_; intro A5 c5 w4 p1 p2 p3))
          all_goals
            have e2 : 0 + k + 1 + (0) = (put idK ys x).length := by rw [HP.out, insA_len x (by rw [HS.out.1.1]; omega), HS.out.1.1] <;> omega
            have e3 : [] ++ flatE eI (ys.take k) ++ eI.enc x ++ flatE eI (ys.drop k) = flatE eI (put idK ys x) := by rw [HP.out, insA_flat, List.nil_append]
            have R := hide (show Ow eI w4 w.heap.size A5 (put idK ys x).length c5 (put idK ys x) by rw [e3, e2] at p1; exact p1)
            have t4 := hide (Turn.onto t3 p2 (fun kk hk => (owns_blk q1 kk hk).1))
            have E2 := hide (show k + 1 = (put idK ys x).length by rw [← e2] <;> omega)
            clear r1 r2 r3 q1 q2 q3 p1 p2 p3 t2 t3 R1 e2 e3
            go_wp2_with fail
            go_ret
            exact ⟨A5, c5, by rw [← E2.out]; rfl, R.out.sk, t4.out⟩
end Go.Proofs.Ytadmiecoahohiaa
