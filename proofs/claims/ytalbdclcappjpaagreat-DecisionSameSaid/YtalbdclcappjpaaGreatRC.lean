/- What stands in the reference. -/
import Derived.Test.YtalbdclcappjpaaGreatRB
import Derived.Test.YtalbdclcappjpaaGreatDY
namespace Go.Proofs.YtalbdclcappjpaaGreat
open Go Go.RowKit Go.Lib
theorem mem_step {l : List Mk} {k : Nat} {z q : Mk} (hz : l[k]? = some z) : decide (q ∈ l.take (k + 1)) = (decide (q ∈ l.take k) || decide (z = q)) := by
  rw [take_next hz]
  by_cases h1 : q ∈ l.take k <;> by_cases h2 : z = q <;> simp [h1, h2]
  all_goals (try (intro h; exact absurd h.symm h2))
  all_goals (try (exact fun h => absurd h.symm h2))
set_option maxHeartbeats 8000000 in
set_option maxRecDepth 100000 in
theorem rstand_any (w : World) (B p : Nat) (F : Nat → Prop) (s : Led) (h : LQ w B F p s) :
    Calls Tryz.prog 36 #[.pointer (some ⟨p, 0, none⟩)] w fun e w' => ∃ A c, e = .returned (.slice A (stL s).length c) ∧ Ow eD w' w.heap.size A (stL s).length c (stL s) ∧ Below w.heap.size w w' := by
  obtain ⟨hk, _, _, A, c, A', c', hb, hd, hw, _, _⟩ := h
  have HB := hide hb
  have HD := hide hd.sl
  have HW := hide hw.sl
  have hn1 : s.d.length ≤ 200 := hk.2.2.1
  have hn2 : s.w.length ≤ 200 := hk.2.2.2.2.2
  have PX : Hid (∀ w', Below w.heap.size w w' → w'.cell? ⟨p, 0, none⟩ = some (.slice A s.d.length c) ∧ w'.cell? ⟨p, 1, none⟩ = some (.slice A' s.w.length c')) := fun w' g => ⟨(HB.out.below g HB.out.lt).at_ 0, (HB.out.below g HB.out.lt).at_ 1⟩
  clear hb hd hw hk
  go_enter Tryz.func36, Tryz.ntmps36
  go_wp2_with fail
  go_loopg [3, 4] s.d.length (fun gk v iv wr => ∃ (i : Nat) (A1 : Option Addr) (c1 : Nat), i + gk = s.d.length ∧ iv = .int .i64 (i : Int) ∧ v = .slice A1 (stI s i).length c1 ∧ Hid (Ow eD wr w.heap.size A1 (stI s i).length c1 (stI s i)) ∧ Hid (Below w.heap.size w wr))
  case atStart => exact ⟨0, none, 0, by omega, rfl, rfl, hide (Ow.nil_ _ _), hide (Below.refl _ _)⟩
  case round =>
    obtain ⟨i, A1, c1, hj, rfl, rfl, HO, HBl⟩ := hrel
    by_cases hlt : i < s.d.length
    · obtain ⟨b, o, y, hA, hl, hy, hcy⟩ := HD.out.atD hlt
      subst hA
      have HY := hide hy
      have CY : Hid (∀ w', Below w.heap.size w w' → CellsD w' b (o + i * 5) y) := fun w' h => by
        have hc := (HD.out.keep h).cellsD HY.out
        exact hc
      clear hcy hl
      obtain ⟨k0, k1⟩ := PX.out wr HBl.out
      have d0 : decide ((i : Int) < (s.d.length : Int)) = true := decide_eq_true (by omega)
      have a1 : (0 : Int) ≤ (i : Int) := by omega
      have a2 : (i : Int) < (s.d.length : Int) := by omega
      clear hy
      obtain ⟨ws, hws⟩ : ∃ x, x = wr := ⟨_, rfl⟩
      subst hws
      go_wp2_with fail
      clear k0 k1
      go_loopw [5, 6] (fun gv kv wq => ∃ k : Nat, kv = .int .i64 (k : Int) ∧ k ≤ s.w.length ∧ gv = .bool (decide (y.mk_ ∈ s.w.take k)) ∧ Hid (Gr ws wq)) (fun _ kv _ => s.w.length - (RowKit.intOf kv).toNat)
      case atStart => exact ⟨0, rfl, Nat.zero_le _, by simp, hide (Gr.refl _)⟩
      case round =>
        obtain ⟨k, rfl, hkl, rfl, HGr⟩ := hrel
        have BQ := hide (Below.next HBl.out HGr.out.below)
        obtain ⟨k0, k1⟩ := PX.out wr BQ.out
        by_cases hk : k < s.w.length
        · obtain ⟨b2, o2, z, hA, hl, hz, hcz⟩ := HW.out.atM hk
          subst hA
          have HZ := hide hz
          have CZ : Hid (∀ w', Below w.heap.size w w' → CellsM w' b2 (o2 + k * 2) z) := fun w' h => (HW.out.keep h).cellsM HZ.out
          have HS := hide (mem_step (q := y.mk_) hz)
          have d1 : decide ((k : Int) < (s.w.length : Int)) = true := decide_eq_true (by omega)
          have a3 : (0 : Int) ≤ (k : Int) := by omega
          have a4 : (k : Int) < (s.w.length : Int) := by omega
          clear hz hcz hl
          cases hg : decide (y.mk_ ∈ s.w.take k) with
          | true =>
            rw [hg] at HS
            clear hg
            go_wp2_with fail
            go_region
            all_goals
              go_wp2_with fail
              go_roundw
              case rel => exact ⟨k + 1, by go_num, by omega, by rw [HS.out]; rfl, hide (HGr.out.trans (by ((repeat (first | (with_reducible assumption) | (with_reducible exact Gr.refl _) | (with_reducible refine Gr.drew ?_) | (with_reducible refine Gr.alloc ?_ _) | (with_reducible refine Gr.trans ?_ (by assumption)))); (first | done | fail))))⟩
              case measure => simp [RowKit.intOf]; omega
          | false =>
            rw [hg] at HS
            have KS : Hid (∀ w', Gr wr w' → w'.cell? ⟨p, 0, none⟩ = some (.slice (some ⟨b, o, none⟩) s.d.length c) ∧ w'.cell? ⟨p, 1, none⟩ = some (.slice (some ⟨b2, o2, none⟩) s.w.length c') ∧ w'.cell? ⟨b, o + i * 5, none⟩ = some (.int .i64 y.u) ∧ w'.cell? ⟨b, o + i * 5 + 1, none⟩ = some (.int .i64 y.n) ∧ w'.cell? ⟨b, o + i * 5 + 2, none⟩ = some (.int .i64 y.k) ∧ w'.cell? ⟨b, o + i * 5 + 3, none⟩ = some (.int .i64 y.a) ∧ w'.cell? ⟨b, o + i * 5 + 4, none⟩ = some (.int .i64 y.b) ∧ w'.cell? ⟨b2, o2 + k * 2, none⟩ = some (.int .i64 z.u) ∧ w'.cell? ⟨b2, o2 + k * 2 + 1, none⟩ = some (.int .i64 z.n)) := fun w' g => by
              have h := Below.next BQ.out g.below
              have h1 := PX.out w' h
              have h2 := CY.out w' h
              have h3 := CZ.out w' h
              exact ⟨h1.1, h1.2, h2.1, h2.2.1, h2.2.2.1, h2.2.2.2.1, h2.2.2.2.2, h3.1, h3.2⟩
            obtain ⟨r, hr⟩ : ∃ r, decide (z = y.mk_) = r := ⟨_, rfl⟩
            rw [hr] at HS
            have e0 := fun (w : World) => eqM_run z y.mk_ w r hr
            clear hg hr
            go_wp2_with fail
            clear k0 k1
            go_region_held3 (fun w' => w'.cell? ⟨p, 0, none⟩ = some (.slice (some ⟨b, o, none⟩) s.d.length c) ∧ w'.cell? ⟨p, 1, none⟩ = some (.slice (some ⟨b2, o2, none⟩) s.w.length c') ∧ w'.cell? ⟨b, o + i * 5, none⟩ = some (.int .i64 y.u) ∧ w'.cell? ⟨b, o + i * 5 + 1, none⟩ = some (.int .i64 y.n) ∧ w'.cell? ⟨b, o + i * 5 + 2, none⟩ = some (.int .i64 y.k) ∧ w'.cell? ⟨b, o + i * 5 + 3, none⟩ = some (.int .i64 y.a) ∧ w'.cell? ⟨b, o + i * 5 + 4, none⟩ = some (.int .i64 y.b) ∧ w'.cell? ⟨b2, o2 + k * 2, none⟩ = some (.int .i64 z.u) ∧ w'.cell? ⟨b2, o2 + k * 2 + 1, none⟩ = some (.int .i64 z.n))
              (exact KS.out _ (by ((repeat (first | (with_reducible assumption) | (with_reducible exact Gr.refl _) | (with_reducible refine Gr.drew ?_) | (with_reducible refine Gr.alloc ?_ _) | (with_reducible refine Gr.trans ?_ (by assumption)))); (first | done | fail))))
              (first
                | (go_at_call 62; (with_reducible refine (rmark_any y _).mono ?_); rintro e w1 ⟨rfl, hg⟩))
            all_goals
              go_wp2_with fail
              go_roundw
              case rel => exact ⟨k + 1, by go_num, by omega, by rw [HS.out]; rfl, hide (HGr.out.trans (by ((repeat (first | (with_reducible assumption) | (with_reducible exact Gr.refl _) | (with_reducible refine Gr.drew ?_) | (with_reducible refine Gr.alloc ?_ _) | (with_reducible refine Gr.trans ?_ (by assumption)))); (first | done | fail))))⟩
              case measure => simp [RowKit.intOf]; omega
        · obtain rfl : k = s.w.length := by omega
          have d1 : decide ((s.w.length : Int) < (s.w.length : Int)) = false := decide_eq_false (by omega)
          rw [List.take_of_length_le (Nat.le_refl _)]
          obtain ⟨m0, m1, m2, m3, m4⟩ := CY.out wr BQ.out
          cases hf : decide (y.mk_ ∈ s.w) with
          | true =>
            have HE := hide (stI_in HY.out (of_decide_eq_true hf))
            clear hf
            go_wp2_with fail
            go_roundg (s.d.length - (i + 1))
            case measure => omega
            case rel => exact ⟨i + 1, A1, c1, by omega, by go_num, by rw [HE.out], hide (by rw [HE.out]; exact HO.out.keep HGr.out.below), BQ⟩
          | false =>
            have HE := hide (stI_out HY.out (of_decide_eq_false hf))
            have hln : (stI s i).length ≤ 200 := Nat.le_trans (stI_len s i) hn1
            have HR := hide (HO.out.keep (Below.next HGr.out.below ((Below.refl _ _).alloc (Nat.le_refl _) (.cells #[.int .i64 y.u, .int .i64 y.n, .int .i64 y.k, .int .i64 y.a, .int .i64 y.b] 44))))
            have HN := hide (box_inD (newE wr #[.int .i64 y.u, .int .i64 y.n, .int .i64 y.k, .int .i64 y.a, .int .i64 y.b] 44 rfl))
            have HB3 := hide (Below.next BQ.out ((Below.refl _ _).alloc (Nat.le_refl _) (.cells #[.int .i64 y.u, .int .i64 y.n, .int .i64 y.k, .int .i64 y.a, .int .i64 y.b] 44)))
            clear hf
            go_wp2_with (at_builtin; refine wpList_app_ow _ rfl _ _ 38 rfl w.heap.size 44 _ 5 40 Tryz.underlying38 infoD rfl (by decide) _ _ _ _ rfl HR.out _ _ _ (eD.enc y) rfl rfl (fun _ => ⟨_, rfl, HN.out⟩) (fun v hv => eD.one y v hv) (by decide) (by omega) HB3.out.size ?_; intro A4 c4 w4 r1 r2 r3)
            go_roundg (s.d.length - (i + 1))
            case measure => omega
            case rel =>
              have e1 : flatE eD (stI s i) ++ eD.enc y = flatE eD (stI s (i + 1)) := by rw [HE.out, flatE_app, flatE_cons, flatE_nil, List.append_nil]
              have e2 : (stI s i).length + 1 = (stI s (i + 1)).length := by rw [HE.out, List.length_append]; rfl
              rw [e1, e2] at r1
              refine ⟨i + 1, A4, c4, by omega, by go_num, by rw [← e2], hide r1, hide (Turn.onto HB3.out r2 fun k hk => (HR.out.blk k hk).1)⟩
    · obtain rfl : i = s.d.length := by omega
      have d0 : decide ((s.d.length : Int) < (s.d.length : Int)) = false := decide_eq_false (by omega)
      obtain ⟨k0, k1⟩ := PX.out wr HBl.out
      have HE := hide (stI_all s)
      go_wp2_with fail
      go_ret
      rw [HE.out] at HO ⊢
      exact ⟨A1, c1, rfl, HO.out, HBl.out⟩
end Go.Proofs.YtalbdclcappjpaaGreat
