/- The reference: Turned. -/
import Derived.Test.YtfhidmlceemhaaaAT
namespace Go.Proofs.Ytfhidmlceemhaaa
open Go Go.RowKit Go.Lib
open AM
set_option maxHeartbeats 8000000 in
theorem rturned_any (A : Option Addr) (n c : Nat) (l : List Int) (t : Int) (w : World) (hr : IS w A n l) :
    Calls Try.prog 20 #[.slice A n c, .int .i64 t] w (I2 (turnX l t) (chkX l) w) := by
  have HR := hide hr
  have HN := hide hr.1
  clear hr
  obtain ⟨r, hrr⟩ : ∃ r, chkX l = r := ⟨_, rfl⟩
  have hc := chkX_cases l
  rw [hrr] at hc ⊢
  have H := hide hrr
  clear hrr
  by_cases h0 : r = 0
  · subst h0
    have HL := hide (chkX_sub H.out)
    have hn64 : n ≤ 64 := by rw [← HN.out]; exact HL.out.1
    clear hc
    obtain ⟨F, hF⟩ : ∃ F : List Int → List Int, F = fun l => l.map (fun x => (x + t) % 12) := ⟨_, rfl⟩
    rw [show turnX l t = F l from by rw [hF]; exact if_pos H.out]
    have HF := hide hF
    clear hF
    go_enter Try.func20, Try.ntmps20
    go_wp2_with fail
    refine (check_any A n c l _ HR.out).mono ?_
    rintro e w1 ⟨rfl, hb⟩
    rw [H.out]
    go_wp2_with fail
    go_loopw [7, 8] (fun v a wr => ∃ (k : Nat) (V : Option Addr) (d : Nat), k ≤ n ∧ v = .slice V k d ∧ a = .int .i64 (k : Int) ∧ Hid (OwnI wr w.heap.size (.slice V k d) (F (l.take k))) ∧ Hid (Below w.heap.size w wr)) (fun _ a _ => n - (RowKit.intOf a).toNat)
    case atStart => exact ⟨0, none, 0, Nat.zero_le _, rfl, rfl, hide (by rw [HF.out]; exact OwnI.nil_ _ _), hb⟩
    case round =>
      clear hb
      obtain ⟨k, V, d, hk, rfl, rfl, HO, HB⟩ := hrel
      by_cases hlt : k < n
      · have d1 : decide ((k : Int) < (n : Int)) = true := decide_eq_true (by omega)
        obtain ⟨b, o, x, rfl, hl, hx, k0⟩ := (HR.out.keep HB.out).at_ hlt
        have hx2 := all_at HL.out.2 hx
        have HX := hide hx
        clear hx
        obtain ⟨x0, x1⟩ := hx2
        have i2 : (0 : Int) ≤ (k : Int) := by omega
        have i3 : (k : Int) < (n : Int) := by omega
        obtain ⟨p, hp⟩ : ∃ p, t % 12 = p := ⟨_, rfl⟩
        have HP := hide hp
        have hp0 : 0 ≤ p := by omega
        have hp1 : p < 12 := by omega
        obtain ⟨q, hq⟩ : ∃ q, (x + p) % 12 = q := ⟨_, rfl⟩
        have HQ := hide hq
        have HFS := hide (show F (l.take (k + 1)) = F (l.take k) ++ [q] from by
          rw [take_next HX.out, HF.out]
          show List.map _ (_ ++ _) = List.map _ _ ++ _
          rw [List.map_append]
          show _ ++ [(x + t) % 12] = _
          rw [show (x + t) % 12 = q by omega])
        have HLN := hide (show (F (l.take k)).length + 1 ≤ 1000000 from by rw [HF.out, List.length_map, List.length_take]; omega)
        have HLE := hide (show (F (l.take k)).length = k from by rw [HF.out]; show (List.map _ _).length = _; rw [List.length_map, List.length_take, HN.out]; omega)
        clear hp hq
        have w1' : IntKind.i64.wrap (x + p) = x + p := IntWalk.i64_in _ (by omega)
        have hgw := HB.out.size
        go_wp2_with fail
        go_region_law (first
          | (go_simp; go_at_call 15; (with_reducible refine (mod_any t 12 (by decide) (by decide) p HP.out _).mono ?_); rintro e w2 ⟨rfl, rfl⟩)
          | (go_simp; go_at_call 15; (with_reducible refine (mod_any (x + p) 12 (by decide) (by decide) q HQ.out _).mono ?_); rintro e w2 ⟨rfl, rfl⟩)
          | (refine step_app_i (by rfl) _ _ (by rfl) w.heap.size _ (F (l.take k)) (by rfl) (HO.out.keep (by ((repeat (first | (with_reducible assumption) | (with_reducible exact Below.refl _ _) | (with_reducible refine Below.drewS ?_) | (with_reducible refine Below.allocS ?_ _) | (with_reducible refine Below.setS ?_ (by first | omega | (simp; omega)) _))); (first | done | fail)))) _ 1 _ [q] (by rfl) (one_is _ q) HLN.out (by simp; omega) ?_; intro v' w' ho hg))
        all_goals
          obtain ⟨V9, d9, rfl, -⟩ := ho.is
          have HO9 := hide ho
          have HG9 := hide hg
          clear ho hg
          rw [show (F (l.take k) ++ [q]).length = k + 1 from by rw [List.length_append, HLE.out]; rfl] at HO9 ⊢
          go_wp2_with fail
          go_roundw
          case measure => simp [RowKit.intOf]; omega
          case rel =>
            have hB := HB.out
            exact ⟨k + 1, V9, d9, by omega, rfl, by go_num, hide (by rw [HFS.out]; exact HO9.out), hide (own_below (by ((repeat (first | (with_reducible assumption) | (with_reducible exact Below.refl _ _) | (with_reducible refine Below.drewS ?_) | (with_reducible refine Below.allocS ?_ _) | (with_reducible refine Below.setS ?_ (by first | omega | (simp; omega)) _))); (first | done | fail))) HG9.out (by simp; omega) (HO.out.keep (by ((repeat (first | (with_reducible assumption) | (with_reducible exact Below.refl _ _) | (with_reducible refine Below.drewS ?_) | (with_reducible refine Below.allocS ?_ _) | (with_reducible refine Below.setS ?_ (by first | omega | (simp; omega)) _))); (first | done | fail)))) (Nat.le_refl _))⟩
      · obtain rfl : k = n := by omega
        have d1 : decide ((k : Int) < (k : Int)) = false := decide_eq_false (by omega)
        rw [show l.take k = l from List.take_of_length_le (by rw [HN.out]; exact Nat.le_refl _)] at HO
        obtain ⟨A2, c2, he, his⟩ := HO.out.is
        injection he with he1 he2 he3
        rw [← he1, ← he2] at his
        clear he1 he2 he3
        have HI := hide his
        clear his
        go_wp2_with fail
        go_ret2
        exact ⟨_, _, _, rfl, HI.out, HB.out⟩
  · rw [show turnX l t = [] from if_neg (by rw [H.out]; exact h0)]
    rcases hc with rfl | rfl | rfl
    · exact absurd rfl h0
    all_goals
      clear h0
      go_enter Try.func20, Try.ntmps20
      go_wp2_with fail
      refine (check_any A n c l _ HR.out).mono ?_
      rintro e w1 ⟨rfl, hb⟩
      rw [H.out]
      go_wp2_with fail
      go_ret2
      exact ⟨none, 0, 0, rfl, IS.nil_ _ _, hb⟩
end Go.Proofs.Ytfhidmlceemhaaa
