/- ValidChanges, of both sides. -/
import Derived.Test.YtadmiecoahohiaaUD
import Derived.Test.YtadmiecoahohiaaHand
namespace Go.Proofs.Ytadmiecoahohiaa
open Go Go.RowKit Go.Lib
theorem one_next {l : List Chg} {k : Nat} {x : Chg} (h : l[k]? = some x) : (∀ z ∈ l.take (k + 1), One z) ↔ (∀ z ∈ l.take k, One z) ∧ One x := by
  rw [take_next h]
  constructor
  · intro h2
    exact ⟨fun z hz => h2 z (List.mem_append.2 (.inl hz)), h2 x (List.mem_append.2 (.inr (List.mem_singleton.2 rfl)))⟩
  · rintro ⟨h1, h2⟩ z hz
    rcases List.mem_append.1 hz with h | h
    · exact h1 z h
    · rw [List.mem_singleton] at h; rw [h]; exact h2
set_option maxHeartbeats 4000000 in
theorem cidx_any (A : Option Addr) (n c : Nat) (l : List Chg) (w : World) (hl : SL eC w A n l) (hn : n ≤ 1000) :
    Calls Try.prog 57 #[.slice A n c, .func (.func 44) #[] #[]] w fun e w' => ∃ v : Int, e = .returned (.int .i64 v) ∧ decide (0 ≤ v) = !decide (∀ x ∈ l, One x) ∧ Gr w w' := by
  have HS := hide hl
  clear hl
  go_enter Try.func57, Try.ntmps57
  go_wp2_with fail
  go_loopw [8] (fun i wr => ∃ k : Nat, i = .int .i64 (k : Int) ∧ k ≤ n ∧ Hid (∀ x ∈ l.take k, One x) ∧ Hid (Gr w wr)) (fun i _ => n - (RowKit.intOf i).toNat)
  case atStart => exact ⟨0, rfl, Nat.zero_le _, hide (fun x hx => by cases hx), hide (Gr.refl _)⟩
  case round =>
    obtain ⟨k, rfl, hk, HN, HG⟩ := hrel
    by_cases hlt : k < n
    · obtain ⟨b, o, y, rfl, hl, hy, hcy⟩ := (HS.out.keep HG.out.below).atC hlt
      obtain ⟨m0, m1, m2, m3, m4⟩ := hcy
      have HY := hide hy
      have d0 : decide ((k : Int) < (n : Int)) = true := decide_eq_true (by omega)
      have a1 : (0 : Int) ≤ (k : Int) := by omega
      have a2 : (k : Int) < (n : Int) := by omega
      clear hy
      go_wp2_with fail
      by_cases hb : One y
      · refine (inval_any y wr false (by rw [decide_eq_true hb]; rfl)).mono ?_
        rintro e w1 ⟨rfl, g1⟩
        have G1 := hide (HG.out.trans g1)
        have HB := hide hb
        clear g1 hb
        go_wp2_with fail
        go_roundw
        case rel => exact ⟨k + 1, by go_num, by omega, hide ((one_next HY.out).2 ⟨HN.out, HB.out⟩), G1⟩
        case measure => simp [RowKit.intOf]; omega
      · refine (inval_any y wr true (by rw [decide_eq_false hb]; rfl)).mono ?_
        rintro e w1 ⟨rfl, g1⟩
        have G1 := hide (HG.out.trans g1)
        have HB := hide hb
        clear g1 hb
        go_wp2_with fail
        go_ret
        refine ⟨(k : Int), rfl, ?_, G1.out⟩
        rw [decide_eq_false (show ¬ ∀ x ∈ l, One x from fun h => HB.out (h y (List.mem_of_getElem? HY.out)))]
        exact decide_eq_true (by omega)
    · obtain rfl : k = n := by omega
      have d0 : decide ((k : Int) < (k : Int)) = false := decide_eq_false (by omega)
      go_wp2_with fail
      go_ret
      refine ⟨-1, rfl, ?_, HG.out⟩
      have h1 := HN.out
      rw [List.take_of_length_le (by rw [HS.out.1]; exact Nat.le_refl _)] at h1
      rw [decide_eq_true h1]
      exact decide_eq_false (by decide)
set_option maxHeartbeats 2000000 in
theorem ccont_any (A : Option Addr) (n c : Nat) (l : List Chg) (w : World) (hl : SL eC w A n l) (hn : n ≤ 1000) (r : Bool) (hr : (!decide (∀ x ∈ l, One x)) = r) :
    Calls Try.prog 43 #[.slice A n c, .func (.func 44) #[] #[]] w fun e w' => e = .returned (.bool r) ∧ Gr w w' := by
  have H := hide (cidx_any A n c l w hl hn)
  have HR := hide hr
  clear hl hr
  go_enter Try.func43, Try.ntmps43
  go_wp2_with fail
  refine H.out.mono ?_
  rintro e w1 ⟨v, rfl, hd, g1⟩
  have HD := hide hd
  have G1 := hide g1
  clear hd g1
  go_wp2_with fail
  go_ret
  exact ⟨by rw [← HR.out, ← HD.out]; rfl, G1.out⟩
set_option maxHeartbeats 4000000 in
theorem validC_any (A : Option Addr) (n c : Nat) (ys : List Chg) (w : World) (hs : SL eC w A n ys) (hn : n ≤ 1000) (r : Bool) (hr : vC ys = r) :
    Calls Try.prog 18 #[.slice A n c] w fun e w' => e = .returned (.bool r) ∧ Gr w w' := by
  unfold vC at hr
  rw [hs.1] at hr
  have HS := hide hs
  by_cases h : n ≤ 64
  · have d0 : decide ((n : Int) ≤ 64) = true := decide_eq_true (by omega)
    by_cases h2 : Srt Chg.k ys
    · have HA := hide (ascC_any A n c ys w hs hn true (decide_eq_true h2))
      have HR := hide (show (!decide (∀ x ∈ ys, One x)) = !r by rw [← hr]; congr 1; exact decide_eq_decide.2 ⟨fun x => ⟨h, h2, x⟩, fun x => x.2.2⟩)
      clear hr hs
      go_enter Try.func18, Try.ntmps18
      go_wp2_with fail
      refine HA.out.mono ?_
      rintro e w1 ⟨rfl, g⟩
      have G := hide g
      clear g
      go_wp2_with fail
      refine (ccont_any A n c ys w1 (HS.out.keep G.out.below) hn (!r) HR.out).mono ?_
      rintro e w2 ⟨rfl, g⟩
      have G2 := hide (G.out.trans g)
      clear g
      go_wp2_with fail
      go_ret
      exact ⟨by cases r <;> rfl, G2.out⟩
    · have HA := hide (ascC_any A n c ys w hs hn false (decide_eq_false h2))
      obtain rfl : r = false := by rw [← hr]; exact decide_eq_false fun x => h2 x.2.1
      clear hr hs
      go_enter Try.func18, Try.ntmps18
      go_wp2_with fail
      refine HA.out.mono ?_
      rintro e w1 ⟨rfl, g⟩
      have G := hide g
      clear g
      go_wp2_with fail
      go_ret
      exact ⟨rfl, G.out⟩
  · obtain rfl : r = false := by rw [← hr]; exact decide_eq_false fun x => h x.1
    have d0 : decide ((n : Int) ≤ 64) = false := decide_eq_false (by omega)
    clear hr hs
    go_enter Try.func18, Try.ntmps18
    go_wp2_with fail
    go_ret
    exact ⟨rfl, Gr.refl _⟩

set_option maxHeartbeats 8000000 in
set_option maxRecDepth 100000 in
theorem rvalidC_any (A : Option Addr) (n c : Nat) (ys : List Chg) (w : World) (hs : SL eC w A n ys) (hn : n ≤ 1000) (r : Bool) (hr : vC ys = r) :
    Calls Try.prog 19 #[.slice A n c] w fun e w' => e = .returned (.bool r) ∧ Gr w w' := by
  have HS := hide hs
  have HL := hide hs.1
  have HR := hide (show decide (n ≤ 64 ∧ Srt Chg.k ys ∧ ∀ x ∈ ys, One x) = r by rw [← hr]; unfold vC; rw [hs.1])
  clear hs hr
  go_enter Try.func19, Try.ntmps19
  go_wp2_with fail
  go_loopw [3] (fun i wr => ∃ k : Nat, i = .int .i64 (k : Int) ∧ k ≤ n ∧ Hid (Srt Chg.k (ys.take k) ∧ ∀ x ∈ ys.take k, One x) ∧ Hid (Gr w wr)) (fun i _ => n - (RowKit.intOf i).toNat)
  case atStart => exact ⟨0, rfl, Nat.zero_le _, hide ⟨Srt.nil, fun x hx => by cases hx⟩, hide (Gr.refl _)⟩
  case round =>
    obtain ⟨k, rfl, hk, HT, HG⟩ := hrel
    by_cases hlt : k < n
    · obtain ⟨b, o, x, rfl, hl, hx, hcx⟩ := (HS.out.keep HG.out.below).atC hlt
      have HX := hide hx
      have d0 : decide ((k : Int) < (n : Int)) = true := decide_eq_true (by omega)
      have a1 : (0 : Int) ≤ (k : Int) := by omega
      have a2 : (k : Int) < (n : Int) := by omega
      have a9 : ((k : Int)).toNat = k := by omega
      by_cases ho : One x
      · have HO := hide (decide_eq_true ho)
        have HO2 := hide ho
        rcases Nat.eq_zero_or_pos k with hk0 | hk0
        · subst hk0
          have HF := hide (show Srt Chg.k (ys.take (0 + 1)) ∧ ∀ x ∈ ys.take (0 + 1), One x from ⟨srt_one _, (one_next HX.out).2 ⟨fun x hx => (by cases hx), HO2.out⟩⟩)
          have KS : Hid (∀ w', Gr wr w' → w'.cell? ⟨b, o, none⟩ = some (.int .i64 x.k) ∧ w'.cell? ⟨b, o + 1, none⟩ = some (.int .i64 x.o) ∧ w'.cell? ⟨b, o + 2, none⟩ = some (.int .i64 x.n) ∧ w'.cell? ⟨b, o + 3, none⟩ = some (.bool x.h) ∧ w'.cell? ⟨b, o + 4, none⟩ = some (.bool x.s)) := fun w' g => by
            have ex : ∀ p : Addr, p.block < wr.heap.size → w'.cell? p = wr.cell? p := fun p hp => g.below.cell hp
            rw [ex ⟨b, o, none⟩ hl, ex ⟨b, o + 1, none⟩ hl, ex ⟨b, o + 2, none⟩ hl, ex ⟨b, o + 3, none⟩ hl, ex ⟨b, o + 4, none⟩ hl]
            exact ⟨hcx.1, hcx.2.1, hcx.2.2.1, hcx.2.2.2.1, hcx.2.2.2.2⟩
          clear hx hcx ho
          go_wp2_with fail
          have P0 : Gr wr wr.drew := (Gr.refl wr).drew
          refine wp_region_held_drew (S := fun w' => w'.cell? ⟨b, o, none⟩ = some (.int .i64 x.k) ∧ w'.cell? ⟨b, o + 1, none⟩ = some (.int .i64 x.o) ∧ w'.cell? ⟨b, o + 2, none⟩ = some (.int .i64 x.n) ∧ w'.cell? ⟨b, o + 3, none⟩ = some (.bool x.h) ∧ w'.cell? ⟨b, o + 4, none⟩ = some (.bool x.s)) (by kernel_rfl) (KS.out _ P0) (fun hHeld => ?_)
          refine take_at 0 10 (v := ?vf0) rfl rfl (by kernel_rfl) (by kernel_rfl) (by kernel_rfl) (fun _ _ _ h => h) (by rfl) ?yf0 (by assumption) ?rf0
          case yf0 => (intro w hSw; (try dsimp only at hSw); (first | (go_simp; done) | (go_simp; with_reducible rfl)))
          try simp only [Act.put, List.setIfInBounds_toArray, List.set_cons_zero, List.set_cons_succ]
          refine take_at 1 11 (v := ?vf1) rfl rfl (by kernel_rfl) (by kernel_rfl) (by kernel_rfl) (fun _ _ _ h => h) (by rfl) ?yf1 (by assumption) ?rf1
          case yf1 => (intro w hSw; (try dsimp only at hSw); (first | (go_simp; done) | (go_simp; with_reducible rfl)))
          try simp only [Act.put, List.setIfInBounds_toArray, List.set_cons_zero, List.set_cons_succ]
          refine take_at 2 12 (v := ?vf2) rfl rfl (by kernel_rfl) (by kernel_rfl) (by kernel_rfl) (fun _ _ _ h => h) (by rfl) ?yf2 (by assumption) ?rf2
          case yf2 => (intro w hSw; (try dsimp only at hSw); (first | (go_simp; done) | (go_simp; with_reducible rfl)))
          try simp only [Act.put, List.setIfInBounds_toArray, List.set_cons_zero, List.set_cons_succ]
          refine take_at 3 13 (v := ?vf3) rfl rfl (by kernel_rfl) (by kernel_rfl) (by kernel_rfl) (fun _ _ _ h => h) (by rfl) ?yf3 (by assumption) ?rf3
          case yf3 => (intro w hSw; (try dsimp only at hSw); (first | (go_simp; done) | (go_simp; with_reducible rfl)))
          try simp only [Act.put, List.setIfInBounds_toArray, List.set_cons_zero, List.set_cons_succ]
          refine come_at 4 rfl (by kernel_rfl) (by rfl) (fun K hK => ?_)
          go_simp
          (with_reducible refine (single_any x _ true HO.out).mono ?_)
          rintro e u1 ⟨rfl, hx1⟩
          have E1 : Gr wr u1 := P0.trans hx1
          go_wp2_with fail
          refine hK.out _ _ (KS.out _ E1) (fun hHeld2 => ?_)
          clear hK K hHeld
          have hHeld := hHeld2
          clear hHeld2
          try simp only [Act.put, List.setIfInBounds_toArray, List.set_cons_zero, List.set_cons_succ]
          refine take_at 5 15 (v := ?vf5) rfl rfl (by kernel_rfl) (by kernel_rfl) (by kernel_rfl) (fun _ _ _ h => h) (by rfl) ?yf5 (by assumption) ?rf5
          case yf5 => (intro w hSw; (try dsimp only at hSw); (first | (go_simp; done) | (go_simp; with_reducible rfl)))
          try simp only [Act.put, List.setIfInBounds_toArray, List.set_cons_zero, List.set_cons_succ]
          refine take_at 6 16 (v := ?vf6) rfl rfl (by kernel_rfl) (by kernel_rfl) (by kernel_rfl) (fun _ _ _ h => h) (by rfl) ?yf6 (by assumption) ?rf6
          case yf6 => (intro w hSw; (try dsimp only at hSw); (first | (go_simp; done) | (go_simp; with_reducible rfl)))
          try simp only [Act.put, List.setIfInBounds_toArray, List.set_cons_zero, List.set_cons_succ]
          refine take_at 7 17 (v := ?vf7) rfl rfl (by kernel_rfl) (by kernel_rfl) (by kernel_rfl) (fun _ _ _ h => h) (by rfl) ?yf7 (by assumption) ?rf7
          case yf7 => (intro w hSw; (try dsimp only at hSw); (first | (go_simp; done) | (go_simp; with_reducible rfl)))
          try simp only [Act.put, List.setIfInBounds_toArray, List.set_cons_zero, List.set_cons_succ]
          refine take_at 8 18 (v := ?vf8) rfl rfl (by kernel_rfl) (by kernel_rfl) (by kernel_rfl) (fun _ _ _ h => h) (by rfl) ?yf8 (by assumption) ?rf8
          case yf8 => (intro w hSw; (try dsimp only at hSw); (first | (go_simp; done) | (go_simp; with_reducible rfl)))
          try simp only [Act.put, List.setIfInBounds_toArray, List.set_cons_zero, List.set_cons_succ]
          refine take_at 9 19 (v := ?vf9) rfl rfl (by kernel_rfl) (by kernel_rfl) (by kernel_rfl) (fun _ _ _ h => h) (by rfl) ?yf9 (by assumption) ?rf9
          case yf9 => (intro w hSw; (try dsimp only at hSw); (first | (go_simp; done) | (go_simp; with_reducible rfl)))
          try simp only [Act.put, List.setIfInBounds_toArray, List.set_cons_zero, List.set_cons_succ]
          refine pass_at 10 20 rfl rfl (by kernel_rfl) (by kernel_rfl) (by kernel_rfl) (fun _ _ _ h => h) (by rfl) (by assumption) ?_
          try simp only [Act.put, List.setIfInBounds_toArray, List.set_cons_zero, List.set_cons_succ]
          refine pass_at 11 21 rfl rfl (by kernel_rfl) (by kernel_rfl) (by kernel_rfl) (fun _ _ _ h => h) (by rfl) (by assumption) ?_
          try simp only [Act.put, List.setIfInBounds_toArray, List.set_cons_zero, List.set_cons_succ]
          refine pass_at 12 22 rfl rfl (by kernel_rfl) (by kernel_rfl) (by kernel_rfl) (fun _ _ _ h => h) (by rfl) (by assumption) ?_
          try simp only [Act.put, List.setIfInBounds_toArray, List.set_cons_zero, List.set_cons_succ]
          refine pass_at 13 23 rfl rfl (by kernel_rfl) (by kernel_rfl) (by kernel_rfl) (fun _ _ _ h => h) (by rfl) (by assumption) ?_
          try simp only [Act.put, List.setIfInBounds_toArray, List.set_cons_zero, List.set_cons_succ]
          refine pass_at 14 24 rfl rfl (by kernel_rfl) (by kernel_rfl) (by kernel_rfl) (fun _ _ _ h => h) (by rfl) (by assumption) ?_
          try simp only [Act.put, List.setIfInBounds_toArray, List.set_cons_zero, List.set_cons_succ]
          refine pass_at 15 25 rfl rfl (by kernel_rfl) (by kernel_rfl) (by kernel_rfl) (fun _ _ _ h => h) (by rfl) (by assumption) ?_
          try simp only [Act.put, List.setIfInBounds_toArray, List.set_cons_zero, List.set_cons_succ]
          refine pass_at 16 26 rfl rfl (by kernel_rfl) (by kernel_rfl) (by kernel_rfl) (fun _ _ _ h => h) (by rfl) (by assumption) ?_
          try simp only [Act.put, List.setIfInBounds_toArray, List.set_cons_zero, List.set_cons_succ]
          refine pass_at 17 27 rfl rfl (by kernel_rfl) (by kernel_rfl) (by kernel_rfl) (fun _ _ _ h => h) (by rfl) (by assumption) ?_
          try simp only [Act.put, List.setIfInBounds_toArray, List.set_cons_zero, List.set_cons_succ]
          refine pass_at 18 28 rfl rfl (by kernel_rfl) (by kernel_rfl) (by kernel_rfl) (fun _ _ _ h => h) (by rfl) (by assumption) ?_
          try simp only [Act.put, List.setIfInBounds_toArray, List.set_cons_zero, List.set_cons_succ]
          refine pass_at 19 29 rfl rfl (by kernel_rfl) (by kernel_rfl) (by kernel_rfl) (fun _ _ _ h => h) (by rfl) (by assumption) ?_
          try simp only [Act.put, List.setIfInBounds_toArray, List.set_cons_zero, List.set_cons_succ]
          refine pass_at 20 30 rfl rfl (by kernel_rfl) (by kernel_rfl) (by kernel_rfl) (fun _ _ _ h => h) (by rfl) (by assumption) ?_
          try simp only [Act.put, List.setIfInBounds_toArray, List.set_cons_zero, List.set_cons_succ]
          refine pass_at 21 31 rfl rfl (by kernel_rfl) (by kernel_rfl) (by kernel_rfl) (fun _ _ _ h => h) (by rfl) (by assumption) ?_
          try simp only [Act.put, List.setIfInBounds_toArray, List.set_cons_zero, List.set_cons_succ]
          refine take_at 22 32 (v := ?vf22) rfl rfl (by kernel_rfl) (by kernel_rfl) (by kernel_rfl) (fun _ _ _ h => h) (by rfl) ?yf22 (by assumption) ?rf22
          case yf22 => (intro w hSw; (try dsimp only at hSw); (first | (go_simp; done) | (go_simp; with_reducible rfl)))
          try simp only [Act.put, List.setIfInBounds_toArray, List.set_cons_zero, List.set_cons_succ]
          refine take_at 23 33 (v := ?vf23) rfl rfl (by kernel_rfl) (by kernel_rfl) (by kernel_rfl) (fun _ _ _ h => h) (by rfl) ?yf23 (by assumption) ?rf23
          case yf23 => (intro w hSw; (try dsimp only at hSw); (first | (go_simp; done) | (go_simp; with_reducible rfl)))
          try simp only [Act.put, List.setIfInBounds_toArray, List.set_cons_zero, List.set_cons_succ]
          refine wpAnyH_done (by kernel_rfl) ?_ _
          go_wp2_with fail
          go_roundw
          case rel => exact ⟨0 + 1, by go_num, by omega, HF, hide (HG.out.trans (by ((repeat (first | (with_reducible assumption) | (with_reducible exact Gr.refl _) | (with_reducible refine Gr.drew ?_) | (with_reducible refine Gr.alloc ?_ _) | (with_reducible refine Gr.trans ?_ (by assumption)))); (first | done | fail))))⟩
          case measure => simp [RowKit.intOf]; omega

        · obtain ⟨b', o', z, e, hl', hz, hcz⟩ := (HS.out.keep HG.out.below).atC (show k - 1 < n by omega)
          injection e with e
          injection e with e1 e2
          subst e1
          subst e2
          have KS : Hid (∀ w', Gr wr w' → (w'.cell? ⟨b, o + k * 5, none⟩ = some (.int .i64 x.k) ∧ w'.cell? ⟨b, o + k * 5 + 1, none⟩ = some (.int .i64 x.o) ∧ w'.cell? ⟨b, o + k * 5 + 2, none⟩ = some (.int .i64 x.n) ∧ w'.cell? ⟨b, o + k * 5 + 3, none⟩ = some (.bool x.h) ∧ w'.cell? ⟨b, o + k * 5 + 4, none⟩ = some (.bool x.s)) ∧ w'.cell? ⟨b, o + (k - 1) * 5, none⟩ = some (.int .i64 z.k) ∧ w'.cell? ⟨b, o + (k - 1) * 5 + 1, none⟩ = some (.int .i64 z.o) ∧ w'.cell? ⟨b, o + (k - 1) * 5 + 2, none⟩ = some (.int .i64 z.n) ∧ w'.cell? ⟨b, o + (k - 1) * 5 + 3, none⟩ = some (.bool z.h) ∧ w'.cell? ⟨b, o + (k - 1) * 5 + 4, none⟩ = some (.bool z.s)) := fun w' g => by
            have ex : ∀ p : Addr, p.block < wr.heap.size → w'.cell? p = wr.cell? p := fun p hp => g.below.cell hp
            rw [ex ⟨b, o + k * 5, none⟩ hl, ex ⟨b, o + k * 5 + 1, none⟩ hl, ex ⟨b, o + k * 5 + 2, none⟩ hl, ex ⟨b, o + k * 5 + 3, none⟩ hl, ex ⟨b, o + k * 5 + 4, none⟩ hl, ex ⟨b, o + (k - 1) * 5, none⟩ hl, ex ⟨b, o + (k - 1) * 5 + 1, none⟩ hl, ex ⟨b, o + (k - 1) * 5 + 2, none⟩ hl, ex ⟨b, o + (k - 1) * 5 + 3, none⟩ hl, ex ⟨b, o + (k - 1) * 5 + 4, none⟩ hl]
            exact ⟨⟨hcx.1, hcx.2.1, hcx.2.2.1, hcx.2.2.2.1, hcx.2.2.2.2⟩, hcz.1, hcz.2.1, hcz.2.2.1, hcz.2.2.2.1, hcz.2.2.2.2⟩
          have HST := hide (show Srt Chg.k (ys.take (k + 1)) ↔ Srt Chg.k (ys.take k) ∧ z.k < x.k by
            obtain ⟨p, rfl⟩ : ∃ p, k = p + 1 := ⟨k - 1, by omega⟩
            exact srt_step hz hx)
          have d2 : decide ((0 : Int) < (k : Int)) = true := decide_eq_true (by omega)
          have i1 : IntKind.i64.wrap ((k : Int) - 1) = (k : Int) - 1 := IntWalk.i64_in _ (by omega)
          have i2 : (0 : Int) ≤ (k : Int) - 1 := by omega
          have i5 : (1 : Int) ≤ (k : Int) := by omega
          have i3 : (k : Int) - 1 < (n : Int) := by omega
          have i4 : ((k : Int) - 1).toNat = k - 1 := by omega
          clear hx hcx hz hcz ho
          by_cases hzx : z.k < x.k
          · have d1 : decide (x.k ≤ z.k) = false := decide_eq_false (by omega)
            have HF := hide (show Srt Chg.k (ys.take (k + 1)) ∧ ∀ x ∈ ys.take (k + 1), One x from ⟨HST.out.2 ⟨HT.out.1, hzx⟩, (one_next HX.out).2 ⟨HT.out.2, HO2.out⟩⟩)
            clear hzx
            go_wp2_with fail
            have P0 : Gr wr wr.drew := (Gr.refl wr).drew
            refine wp_region_held_drew (S := fun w' => (w'.cell? ⟨b, o + k * 5, none⟩ = some (.int .i64 x.k) ∧ w'.cell? ⟨b, o + k * 5 + 1, none⟩ = some (.int .i64 x.o) ∧ w'.cell? ⟨b, o + k * 5 + 2, none⟩ = some (.int .i64 x.n) ∧ w'.cell? ⟨b, o + k * 5 + 3, none⟩ = some (.bool x.h) ∧ w'.cell? ⟨b, o + k * 5 + 4, none⟩ = some (.bool x.s)) ∧ w'.cell? ⟨b, o + (k - 1) * 5, none⟩ = some (.int .i64 z.k) ∧ w'.cell? ⟨b, o + (k - 1) * 5 + 1, none⟩ = some (.int .i64 z.o) ∧ w'.cell? ⟨b, o + (k - 1) * 5 + 2, none⟩ = some (.int .i64 z.n) ∧ w'.cell? ⟨b, o + (k - 1) * 5 + 3, none⟩ = some (.bool z.h) ∧ w'.cell? ⟨b, o + (k - 1) * 5 + 4, none⟩ = some (.bool z.s)) (by kernel_rfl) (KS.out _ P0) (fun hHeld => ?_)
            refine take_at 0 10 (v := ?vl0) rfl rfl (by kernel_rfl) (by kernel_rfl) (by kernel_rfl) (fun _ _ _ h => h) (by rfl) ?yl0 (by assumption) ?rl0
            case yl0 => (intro w hSw; (try dsimp only at hSw); (first | (go_simp; done) | (go_simp; with_reducible rfl)))
            try simp only [Act.put, List.setIfInBounds_toArray, List.set_cons_zero, List.set_cons_succ]
            refine take_at 1 11 (v := ?vl1) rfl rfl (by kernel_rfl) (by kernel_rfl) (by kernel_rfl) (fun _ _ _ h => h) (by rfl) ?yl1 (by assumption) ?rl1
            case yl1 => (intro w hSw; (try dsimp only at hSw); (first | (go_simp; done) | (go_simp; with_reducible rfl)))
            try simp only [Act.put, List.setIfInBounds_toArray, List.set_cons_zero, List.set_cons_succ]
            refine take_at 2 12 (v := ?vl2) rfl rfl (by kernel_rfl) (by kernel_rfl) (by kernel_rfl) (fun _ _ _ h => h) (by rfl) ?yl2 (by assumption) ?rl2
            case yl2 => (intro w hSw; (try dsimp only at hSw); (first | (go_simp; done) | (go_simp; with_reducible rfl)))
            try simp only [Act.put, List.setIfInBounds_toArray, List.set_cons_zero, List.set_cons_succ]
            refine take_at 3 13 (v := ?vl3) rfl rfl (by kernel_rfl) (by kernel_rfl) (by kernel_rfl) (fun _ _ _ h => h) (by rfl) ?yl3 (by assumption) ?rl3
            case yl3 => (intro w hSw; (try dsimp only at hSw); (first | (go_simp; done) | (go_simp; with_reducible rfl)))
            try simp only [Act.put, List.setIfInBounds_toArray, List.set_cons_zero, List.set_cons_succ]
            refine come_at 4 rfl (by kernel_rfl) (by rfl) (fun K hK => ?_)
            go_simp
            (with_reducible refine (single_any x _ true HO.out).mono ?_)
            rintro e u1 ⟨rfl, hx1⟩
            have E1 : Gr wr u1 := P0.trans hx1
            go_wp2_with fail
            refine hK.out _ _ (KS.out _ E1) (fun hHeld2 => ?_)
            clear hK K hHeld
            have hHeld := hHeld2
            clear hHeld2
            try simp only [Act.put, List.setIfInBounds_toArray, List.set_cons_zero, List.set_cons_succ]
            refine take_at 5 15 (v := ?vl5) rfl rfl (by kernel_rfl) (by kernel_rfl) (by kernel_rfl) (fun _ _ _ h => h) (by rfl) ?yl5 (by assumption) ?rl5
            case yl5 => (intro w hSw; (try dsimp only at hSw); (first | (go_simp; done) | (go_simp; with_reducible rfl)))
            try simp only [Act.put, List.setIfInBounds_toArray, List.set_cons_zero, List.set_cons_succ]
            refine take_at 6 16 (v := ?vl6) rfl rfl (by kernel_rfl) (by kernel_rfl) (by kernel_rfl) (fun _ _ _ h => h) (by rfl) ?yl6 (by assumption) ?rl6
            case yl6 => (intro w hSw; (try dsimp only at hSw); (first | (go_simp; done) | (go_simp; with_reducible rfl)))
            try simp only [Act.put, List.setIfInBounds_toArray, List.set_cons_zero, List.set_cons_succ]
            refine take_at 7 17 (v := ?vl7) rfl rfl (by kernel_rfl) (by kernel_rfl) (by kernel_rfl) (fun _ _ _ h => h) (by rfl) ?yl7 (by assumption) ?rl7
            case yl7 => (intro w hSw; (try dsimp only at hSw); (first | (go_simp; done) | (go_simp; with_reducible rfl)))
            try simp only [Act.put, List.setIfInBounds_toArray, List.set_cons_zero, List.set_cons_succ]
            refine take_at 8 18 (v := ?vl8) rfl rfl (by kernel_rfl) (by kernel_rfl) (by kernel_rfl) (fun _ _ _ h => h) (by rfl) ?yl8 (by assumption) ?rl8
            case yl8 => (intro w hSw; (try dsimp only at hSw); (first | (go_simp; done) | (go_simp; with_reducible rfl)))
            try simp only [Act.put, List.setIfInBounds_toArray, List.set_cons_zero, List.set_cons_succ]
            refine take_at 9 19 (v := ?vl9) rfl rfl (by kernel_rfl) (by kernel_rfl) (by kernel_rfl) (fun _ _ _ h => h) (by rfl) ?yl9 (by assumption) ?rl9
            case yl9 => (intro w hSw; (try dsimp only at hSw); (first | (go_simp; done) | (go_simp; with_reducible rfl)))
            try simp only [Act.put, List.setIfInBounds_toArray, List.set_cons_zero, List.set_cons_succ]
            refine take_at 10 20 (v := ?vl10) rfl rfl (by kernel_rfl) (by kernel_rfl) (by kernel_rfl) (fun _ _ _ h => h) (by rfl) ?yl10 (by assumption) ?rl10
            case yl10 => (intro w hSw; (try dsimp only at hSw); (first | (go_simp; done) | (go_simp; with_reducible rfl)))
            try simp only [Act.put, List.setIfInBounds_toArray, List.set_cons_zero, List.set_cons_succ]
            refine take_at 11 21 (v := ?vl11) rfl rfl (by kernel_rfl) (by kernel_rfl) (by kernel_rfl) (fun _ _ _ h => h) (by rfl) ?yl11 (by assumption) ?rl11
            case yl11 => (intro w hSw; (try dsimp only at hSw); (first | (go_simp; done) | (go_simp; with_reducible rfl)))
            try simp only [Act.put, List.setIfInBounds_toArray, List.set_cons_zero, List.set_cons_succ]
            refine take_at 12 22 (v := ?vl12) rfl rfl (by kernel_rfl) (by kernel_rfl) (by kernel_rfl) (fun _ _ _ h => h) (by rfl) ?yl12 (by assumption) ?rl12
            case yl12 => (intro w hSw; (try dsimp only at hSw); (first | (go_simp; done) | (go_simp; with_reducible rfl)))
            try simp only [Act.put, List.setIfInBounds_toArray, List.set_cons_zero, List.set_cons_succ]
            refine take_at 13 23 (v := ?vl13) rfl rfl (by kernel_rfl) (by kernel_rfl) (by kernel_rfl) (fun _ _ _ h => h) (by rfl) ?yl13 (by assumption) ?rl13
            case yl13 => (intro w hSw; (try dsimp only at hSw); (first | (go_simp; done) | (go_simp; with_reducible rfl)))
            try simp only [Act.put, List.setIfInBounds_toArray, List.set_cons_zero, List.set_cons_succ]
            refine take_at 14 24 (v := ?vl14) rfl rfl (by kernel_rfl) (by kernel_rfl) (by kernel_rfl) (fun _ _ _ h => h) (by rfl) ?yl14 (by assumption) ?rl14
            case yl14 => (intro w hSw; (try dsimp only at hSw); (first | (go_simp; done) | (go_simp; with_reducible rfl)))
            try simp only [Act.put, List.setIfInBounds_toArray, List.set_cons_zero, List.set_cons_succ]
            refine take_at 15 25 (v := ?vl15) rfl rfl (by kernel_rfl) (by kernel_rfl) (by kernel_rfl) (fun _ _ _ h => h) (by rfl) ?yl15 (by assumption) ?rl15
            case yl15 => (intro w hSw; (try dsimp only at hSw); (first | (go_simp; done) | (go_simp; with_reducible rfl)))
            try simp only [Act.put, List.setIfInBounds_toArray, List.set_cons_zero, List.set_cons_succ]
            refine take_at 16 26 (v := ?vl16) rfl rfl (by kernel_rfl) (by kernel_rfl) (by kernel_rfl) (fun _ _ _ h => h) (by rfl) ?yl16 (by assumption) ?rl16
            case yl16 => (intro w hSw; (try dsimp only at hSw); (first | (go_simp; done) | (go_simp; with_reducible rfl)))
            try simp only [Act.put, List.setIfInBounds_toArray, List.set_cons_zero, List.set_cons_succ]
            refine take_at 17 27 (v := ?vl17) rfl rfl (by kernel_rfl) (by kernel_rfl) (by kernel_rfl) (fun _ _ _ h => h) (by rfl) ?yl17 (by assumption) ?rl17
            case yl17 => (intro w hSw; (try dsimp only at hSw); (first | (go_simp; done) | (go_simp; with_reducible rfl)))
            try simp only [Act.put, List.setIfInBounds_toArray, List.set_cons_zero, List.set_cons_succ]
            refine take_at 18 28 (v := ?vl18) rfl rfl (by kernel_rfl) (by kernel_rfl) (by kernel_rfl) (fun _ _ _ h => h) (by rfl) ?yl18 (by assumption) ?rl18
            case yl18 => (intro w hSw; (try dsimp only at hSw); (first | (go_simp; done) | (go_simp; with_reducible rfl)))
            try simp only [Act.put, List.setIfInBounds_toArray, List.set_cons_zero, List.set_cons_succ]
            refine take_at 19 29 (v := ?vl19) rfl rfl (by kernel_rfl) (by kernel_rfl) (by kernel_rfl) (fun _ _ _ h => h) (by rfl) ?yl19 (by assumption) ?rl19
            case yl19 => (intro w hSw; (try dsimp only at hSw); (first | (go_simp; done) | (go_simp; with_reducible rfl)))
            try simp only [Act.put, List.setIfInBounds_toArray, List.set_cons_zero, List.set_cons_succ]
            refine take_at 20 30 (v := ?vl20) rfl rfl (by kernel_rfl) (by kernel_rfl) (by kernel_rfl) (fun _ _ _ h => h) (by rfl) ?yl20 (by assumption) ?rl20
            case yl20 => (intro w hSw; (try dsimp only at hSw); (first | (go_simp; done) | (go_simp; with_reducible rfl)))
            try simp only [Act.put, List.setIfInBounds_toArray, List.set_cons_zero, List.set_cons_succ]
            refine take_at 21 31 (v := ?vl21) rfl rfl (by kernel_rfl) (by kernel_rfl) (by kernel_rfl) (fun _ _ _ h => h) (by rfl) ?yl21 (by assumption) ?rl21
            case yl21 => (intro w hSw; (try dsimp only at hSw); (first | (go_simp; done) | (go_simp; with_reducible rfl)))
            try simp only [Act.put, List.setIfInBounds_toArray, List.set_cons_zero, List.set_cons_succ]
            refine take_at 22 32 (v := ?vl22) rfl rfl (by kernel_rfl) (by kernel_rfl) (by kernel_rfl) (fun _ _ _ h => h) (by rfl) ?yl22 (by assumption) ?rl22
            case yl22 => (intro w hSw; (try dsimp only at hSw); (first | (go_simp; done) | (go_simp; with_reducible rfl)))
            try simp only [Act.put, List.setIfInBounds_toArray, List.set_cons_zero, List.set_cons_succ]
            refine take_at 23 33 (v := ?vl23) rfl rfl (by kernel_rfl) (by kernel_rfl) (by kernel_rfl) (fun _ _ _ h => h) (by rfl) ?yl23 (by assumption) ?rl23
            case yl23 => (intro w hSw; (try dsimp only at hSw); (first | (go_simp; done) | (go_simp; with_reducible rfl)))
            try simp only [Act.put, List.setIfInBounds_toArray, List.set_cons_zero, List.set_cons_succ]
            refine wpAnyH_done (by kernel_rfl) ?_ _
            go_wp2_with fail
            go_roundw
            case rel => exact ⟨k + 1, by go_num, by omega, HF, hide (HG.out.trans (by ((repeat (first | (with_reducible assumption) | (with_reducible exact Gr.refl _) | (with_reducible refine Gr.drew ?_) | (with_reducible refine Gr.alloc ?_ _) | (with_reducible refine Gr.trans ?_ (by assumption)))); (first | done | fail))))⟩
            case measure => simp [RowKit.intOf]; omega

          · have d1 : decide (x.k ≤ z.k) = true := decide_eq_true (by omega)
            have HF := hide (show ¬ (n ≤ 64 ∧ Srt Chg.k ys ∧ ∀ x ∈ ys, One x) from fun h => hzx (HST.out.1 (srt_of_take h.2.1)).2)
            clear hzx
            go_wp2_with fail
            have P0 : Gr wr wr.drew := (Gr.refl wr).drew
            refine wp_region_held_drew (S := fun w' => (w'.cell? ⟨b, o + k * 5, none⟩ = some (.int .i64 x.k) ∧ w'.cell? ⟨b, o + k * 5 + 1, none⟩ = some (.int .i64 x.o) ∧ w'.cell? ⟨b, o + k * 5 + 2, none⟩ = some (.int .i64 x.n) ∧ w'.cell? ⟨b, o + k * 5 + 3, none⟩ = some (.bool x.h) ∧ w'.cell? ⟨b, o + k * 5 + 4, none⟩ = some (.bool x.s)) ∧ w'.cell? ⟨b, o + (k - 1) * 5, none⟩ = some (.int .i64 z.k) ∧ w'.cell? ⟨b, o + (k - 1) * 5 + 1, none⟩ = some (.int .i64 z.o) ∧ w'.cell? ⟨b, o + (k - 1) * 5 + 2, none⟩ = some (.int .i64 z.n) ∧ w'.cell? ⟨b, o + (k - 1) * 5 + 3, none⟩ = some (.bool z.h) ∧ w'.cell? ⟨b, o + (k - 1) * 5 + 4, none⟩ = some (.bool z.s)) (by kernel_rfl) (KS.out _ P0) (fun hHeld => ?_)
            refine take_at 0 10 (v := ?ve0) rfl rfl (by kernel_rfl) (by kernel_rfl) (by kernel_rfl) (fun _ _ _ h => h) (by rfl) ?ye0 (by assumption) ?re0
            case ye0 => (intro w hSw; (try dsimp only at hSw); (first | (go_simp; done) | (go_simp; with_reducible rfl)))
            try simp only [Act.put, List.setIfInBounds_toArray, List.set_cons_zero, List.set_cons_succ]
            refine take_at 1 11 (v := ?ve1) rfl rfl (by kernel_rfl) (by kernel_rfl) (by kernel_rfl) (fun _ _ _ h => h) (by rfl) ?ye1 (by assumption) ?re1
            case ye1 => (intro w hSw; (try dsimp only at hSw); (first | (go_simp; done) | (go_simp; with_reducible rfl)))
            try simp only [Act.put, List.setIfInBounds_toArray, List.set_cons_zero, List.set_cons_succ]
            refine take_at 2 12 (v := ?ve2) rfl rfl (by kernel_rfl) (by kernel_rfl) (by kernel_rfl) (fun _ _ _ h => h) (by rfl) ?ye2 (by assumption) ?re2
            case ye2 => (intro w hSw; (try dsimp only at hSw); (first | (go_simp; done) | (go_simp; with_reducible rfl)))
            try simp only [Act.put, List.setIfInBounds_toArray, List.set_cons_zero, List.set_cons_succ]
            refine take_at 3 13 (v := ?ve3) rfl rfl (by kernel_rfl) (by kernel_rfl) (by kernel_rfl) (fun _ _ _ h => h) (by rfl) ?ye3 (by assumption) ?re3
            case ye3 => (intro w hSw; (try dsimp only at hSw); (first | (go_simp; done) | (go_simp; with_reducible rfl)))
            try simp only [Act.put, List.setIfInBounds_toArray, List.set_cons_zero, List.set_cons_succ]
            refine come_at 4 rfl (by kernel_rfl) (by rfl) (fun K hK => ?_)
            go_simp
            (with_reducible refine (single_any x _ true HO.out).mono ?_)
            rintro e u1 ⟨rfl, hx1⟩
            have E1 : Gr wr u1 := P0.trans hx1
            go_wp2_with fail
            refine hK.out _ _ (KS.out _ E1) (fun hHeld2 => ?_)
            clear hK K hHeld
            have hHeld := hHeld2
            clear hHeld2
            try simp only [Act.put, List.setIfInBounds_toArray, List.set_cons_zero, List.set_cons_succ]
            refine take_at 5 15 (v := ?ve5) rfl rfl (by kernel_rfl) (by kernel_rfl) (by kernel_rfl) (fun _ _ _ h => h) (by rfl) ?ye5 (by assumption) ?re5
            case ye5 => (intro w hSw; (try dsimp only at hSw); (first | (go_simp; done) | (go_simp; with_reducible rfl)))
            try simp only [Act.put, List.setIfInBounds_toArray, List.set_cons_zero, List.set_cons_succ]
            refine take_at 6 16 (v := ?ve6) rfl rfl (by kernel_rfl) (by kernel_rfl) (by kernel_rfl) (fun _ _ _ h => h) (by rfl) ?ye6 (by assumption) ?re6
            case ye6 => (intro w hSw; (try dsimp only at hSw); (first | (go_simp; done) | (go_simp; with_reducible rfl)))
            try simp only [Act.put, List.setIfInBounds_toArray, List.set_cons_zero, List.set_cons_succ]
            refine take_at 7 17 (v := ?ve7) rfl rfl (by kernel_rfl) (by kernel_rfl) (by kernel_rfl) (fun _ _ _ h => h) (by rfl) ?ye7 (by assumption) ?re7
            case ye7 => (intro w hSw; (try dsimp only at hSw); (first | (go_simp; done) | (go_simp; with_reducible rfl)))
            try simp only [Act.put, List.setIfInBounds_toArray, List.set_cons_zero, List.set_cons_succ]
            refine take_at 8 18 (v := ?ve8) rfl rfl (by kernel_rfl) (by kernel_rfl) (by kernel_rfl) (fun _ _ _ h => h) (by rfl) ?ye8 (by assumption) ?re8
            case ye8 => (intro w hSw; (try dsimp only at hSw); (first | (go_simp; done) | (go_simp; with_reducible rfl)))
            try simp only [Act.put, List.setIfInBounds_toArray, List.set_cons_zero, List.set_cons_succ]
            refine take_at 9 19 (v := ?ve9) rfl rfl (by kernel_rfl) (by kernel_rfl) (by kernel_rfl) (fun _ _ _ h => h) (by rfl) ?ye9 (by assumption) ?re9
            case ye9 => (intro w hSw; (try dsimp only at hSw); (first | (go_simp; done) | (go_simp; with_reducible rfl)))
            try simp only [Act.put, List.setIfInBounds_toArray, List.set_cons_zero, List.set_cons_succ]
            refine take_at 10 20 (v := ?ve10) rfl rfl (by kernel_rfl) (by kernel_rfl) (by kernel_rfl) (fun _ _ _ h => h) (by rfl) ?ye10 (by assumption) ?re10
            case ye10 => (intro w hSw; (try dsimp only at hSw); (first | (go_simp; done) | (go_simp; with_reducible rfl)))
            try simp only [Act.put, List.setIfInBounds_toArray, List.set_cons_zero, List.set_cons_succ]
            refine take_at 11 21 (v := ?ve11) rfl rfl (by kernel_rfl) (by kernel_rfl) (by kernel_rfl) (fun _ _ _ h => h) (by rfl) ?ye11 (by assumption) ?re11
            case ye11 => (intro w hSw; (try dsimp only at hSw); (first | (go_simp; done) | (go_simp; with_reducible rfl)))
            try simp only [Act.put, List.setIfInBounds_toArray, List.set_cons_zero, List.set_cons_succ]
            refine take_at 12 22 (v := ?ve12) rfl rfl (by kernel_rfl) (by kernel_rfl) (by kernel_rfl) (fun _ _ _ h => h) (by rfl) ?ye12 (by assumption) ?re12
            case ye12 => (intro w hSw; (try dsimp only at hSw); (first | (go_simp; done) | (go_simp; with_reducible rfl)))
            try simp only [Act.put, List.setIfInBounds_toArray, List.set_cons_zero, List.set_cons_succ]
            refine take_at 13 23 (v := ?ve13) rfl rfl (by kernel_rfl) (by kernel_rfl) (by kernel_rfl) (fun _ _ _ h => h) (by rfl) ?ye13 (by assumption) ?re13
            case ye13 => (intro w hSw; (try dsimp only at hSw); (first | (go_simp; done) | (go_simp; with_reducible rfl)))
            try simp only [Act.put, List.setIfInBounds_toArray, List.set_cons_zero, List.set_cons_succ]
            refine take_at 14 24 (v := ?ve14) rfl rfl (by kernel_rfl) (by kernel_rfl) (by kernel_rfl) (fun _ _ _ h => h) (by rfl) ?ye14 (by assumption) ?re14
            case ye14 => (intro w hSw; (try dsimp only at hSw); (first | (go_simp; done) | (go_simp; with_reducible rfl)))
            try simp only [Act.put, List.setIfInBounds_toArray, List.set_cons_zero, List.set_cons_succ]
            refine take_at 15 25 (v := ?ve15) rfl rfl (by kernel_rfl) (by kernel_rfl) (by kernel_rfl) (fun _ _ _ h => h) (by rfl) ?ye15 (by assumption) ?re15
            case ye15 => (intro w hSw; (try dsimp only at hSw); (first | (go_simp; done) | (go_simp; with_reducible rfl)))
            try simp only [Act.put, List.setIfInBounds_toArray, List.set_cons_zero, List.set_cons_succ]
            refine take_at 16 26 (v := ?ve16) rfl rfl (by kernel_rfl) (by kernel_rfl) (by kernel_rfl) (fun _ _ _ h => h) (by rfl) ?ye16 (by assumption) ?re16
            case ye16 => (intro w hSw; (try dsimp only at hSw); (first | (go_simp; done) | (go_simp; with_reducible rfl)))
            try simp only [Act.put, List.setIfInBounds_toArray, List.set_cons_zero, List.set_cons_succ]
            refine take_at 17 27 (v := ?ve17) rfl rfl (by kernel_rfl) (by kernel_rfl) (by kernel_rfl) (fun _ _ _ h => h) (by rfl) ?ye17 (by assumption) ?re17
            case ye17 => (intro w hSw; (try dsimp only at hSw); (first | (go_simp; done) | (go_simp; with_reducible rfl)))
            try simp only [Act.put, List.setIfInBounds_toArray, List.set_cons_zero, List.set_cons_succ]
            refine take_at 18 28 (v := ?ve18) rfl rfl (by kernel_rfl) (by kernel_rfl) (by kernel_rfl) (fun _ _ _ h => h) (by rfl) ?ye18 (by assumption) ?re18
            case ye18 => (intro w hSw; (try dsimp only at hSw); (first | (go_simp; done) | (go_simp; with_reducible rfl)))
            try simp only [Act.put, List.setIfInBounds_toArray, List.set_cons_zero, List.set_cons_succ]
            refine take_at 19 29 (v := ?ve19) rfl rfl (by kernel_rfl) (by kernel_rfl) (by kernel_rfl) (fun _ _ _ h => h) (by rfl) ?ye19 (by assumption) ?re19
            case ye19 => (intro w hSw; (try dsimp only at hSw); (first | (go_simp; done) | (go_simp; with_reducible rfl)))
            try simp only [Act.put, List.setIfInBounds_toArray, List.set_cons_zero, List.set_cons_succ]
            refine take_at 20 30 (v := ?ve20) rfl rfl (by kernel_rfl) (by kernel_rfl) (by kernel_rfl) (fun _ _ _ h => h) (by rfl) ?ye20 (by assumption) ?re20
            case ye20 => (intro w hSw; (try dsimp only at hSw); (first | (go_simp; done) | (go_simp; with_reducible rfl)))
            try simp only [Act.put, List.setIfInBounds_toArray, List.set_cons_zero, List.set_cons_succ]
            refine take_at 21 31 (v := ?ve21) rfl rfl (by kernel_rfl) (by kernel_rfl) (by kernel_rfl) (fun _ _ _ h => h) (by rfl) ?ye21 (by assumption) ?re21
            case ye21 => (intro w hSw; (try dsimp only at hSw); (first | (go_simp; done) | (go_simp; with_reducible rfl)))
            try simp only [Act.put, List.setIfInBounds_toArray, List.set_cons_zero, List.set_cons_succ]
            refine take_at 22 32 (v := ?ve22) rfl rfl (by kernel_rfl) (by kernel_rfl) (by kernel_rfl) (fun _ _ _ h => h) (by rfl) ?ye22 (by assumption) ?re22
            case ye22 => (intro w hSw; (try dsimp only at hSw); (first | (go_simp; done) | (go_simp; with_reducible rfl)))
            try simp only [Act.put, List.setIfInBounds_toArray, List.set_cons_zero, List.set_cons_succ]
            refine take_at 23 33 (v := ?ve23) rfl rfl (by kernel_rfl) (by kernel_rfl) (by kernel_rfl) (fun _ _ _ h => h) (by rfl) ?ye23 (by assumption) ?re23
            case ye23 => (intro w hSw; (try dsimp only at hSw); (first | (go_simp; done) | (go_simp; with_reducible rfl)))
            try simp only [Act.put, List.setIfInBounds_toArray, List.set_cons_zero, List.set_cons_succ]
            refine wpAnyH_done (by kernel_rfl) ?_ _
            go_wp2_with fail
            go_ret
            exact ⟨by rw [← HR.out, decide_eq_false HF.out]; rfl, HG.out.trans (by ((repeat (first | (with_reducible assumption) | (with_reducible exact Gr.refl _) | (with_reducible refine Gr.drew ?_) | (with_reducible refine Gr.alloc ?_ _) | (with_reducible refine Gr.trans ?_ (by assumption)))); (first | done | fail)))⟩

      · have HO := hide (decide_eq_false ho)
        have HF := hide (show ¬ (n ≤ 64 ∧ Srt Chg.k ys ∧ ∀ x ∈ ys, One x) from fun h => ho (h.2.2 x (List.mem_of_getElem? hx)))
        have KS : Hid (∀ w', Gr wr w' → w'.cell? ⟨b, o + k * 5, none⟩ = some (.int .i64 x.k) ∧ w'.cell? ⟨b, o + k * 5 + 1, none⟩ = some (.int .i64 x.o) ∧ w'.cell? ⟨b, o + k * 5 + 2, none⟩ = some (.int .i64 x.n) ∧ w'.cell? ⟨b, o + k * 5 + 3, none⟩ = some (.bool x.h) ∧ w'.cell? ⟨b, o + k * 5 + 4, none⟩ = some (.bool x.s)) := fun w' g => by
          have ex : ∀ p : Addr, p.block < wr.heap.size → w'.cell? p = wr.cell? p := fun p hp => g.below.cell hp
          rw [ex ⟨b, o + k * 5, none⟩ hl, ex ⟨b, o + k * 5 + 1, none⟩ hl, ex ⟨b, o + k * 5 + 2, none⟩ hl, ex ⟨b, o + k * 5 + 3, none⟩ hl, ex ⟨b, o + k * 5 + 4, none⟩ hl]
          exact ⟨hcx.1, hcx.2.1, hcx.2.2.1, hcx.2.2.2.1, hcx.2.2.2.2⟩
        clear hx hcx ho
        go_wp2_with fail
        have P0 : Gr wr wr.drew := (Gr.refl wr).drew
        refine wp_region_held_drew (S := fun w' => w'.cell? ⟨b, o + k * 5, none⟩ = some (.int .i64 x.k) ∧ w'.cell? ⟨b, o + k * 5 + 1, none⟩ = some (.int .i64 x.o) ∧ w'.cell? ⟨b, o + k * 5 + 2, none⟩ = some (.int .i64 x.n) ∧ w'.cell? ⟨b, o + k * 5 + 3, none⟩ = some (.bool x.h) ∧ w'.cell? ⟨b, o + k * 5 + 4, none⟩ = some (.bool x.s)) (by kernel_rfl) (KS.out _ P0) (fun hHeld => ?_)
        refine take_at 0 10 (v := ?vb0) rfl rfl (by kernel_rfl) (by kernel_rfl) (by kernel_rfl) (fun _ _ _ h => h) (by rfl) ?yb0 (by assumption) ?rb0
        case yb0 => (intro w hSw; (try dsimp only at hSw); (first | (go_simp; done) | (go_simp; with_reducible rfl)))
        try simp only [Act.put, List.setIfInBounds_toArray, List.set_cons_zero, List.set_cons_succ]
        refine take_at 1 11 (v := ?vb1) rfl rfl (by kernel_rfl) (by kernel_rfl) (by kernel_rfl) (fun _ _ _ h => h) (by rfl) ?yb1 (by assumption) ?rb1
        case yb1 => (intro w hSw; (try dsimp only at hSw); (first | (go_simp; done) | (go_simp; with_reducible rfl)))
        try simp only [Act.put, List.setIfInBounds_toArray, List.set_cons_zero, List.set_cons_succ]
        refine take_at 2 12 (v := ?vb2) rfl rfl (by kernel_rfl) (by kernel_rfl) (by kernel_rfl) (fun _ _ _ h => h) (by rfl) ?yb2 (by assumption) ?rb2
        case yb2 => (intro w hSw; (try dsimp only at hSw); (first | (go_simp; done) | (go_simp; with_reducible rfl)))
        try simp only [Act.put, List.setIfInBounds_toArray, List.set_cons_zero, List.set_cons_succ]
        refine take_at 3 13 (v := ?vb3) rfl rfl (by kernel_rfl) (by kernel_rfl) (by kernel_rfl) (fun _ _ _ h => h) (by rfl) ?yb3 (by assumption) ?rb3
        case yb3 => (intro w hSw; (try dsimp only at hSw); (first | (go_simp; done) | (go_simp; with_reducible rfl)))
        try simp only [Act.put, List.setIfInBounds_toArray, List.set_cons_zero, List.set_cons_succ]
        refine come_at 4 rfl (by kernel_rfl) (by rfl) (fun K hK => ?_)
        go_simp
        (with_reducible refine (single_any x _ false HO.out).mono ?_)
        rintro e u1 ⟨rfl, hx1⟩
        have E1 : Gr wr u1 := P0.trans hx1
        go_wp2_with fail
        refine hK.out _ _ (KS.out _ E1) (fun hHeld2 => ?_)
        clear hK K hHeld
        have hHeld := hHeld2
        clear hHeld2
        try simp only [Act.put, List.setIfInBounds_toArray, List.set_cons_zero, List.set_cons_succ]
        refine take_at 5 15 (v := ?vb5) rfl rfl (by kernel_rfl) (by kernel_rfl) (by kernel_rfl) (fun _ _ _ h => h) (by rfl) ?yb5 (by assumption) ?rb5
        case yb5 => (intro w hSw; (try dsimp only at hSw); (first | (go_simp; done) | (go_simp; with_reducible rfl)))
        try simp only [Act.put, List.setIfInBounds_toArray, List.set_cons_zero, List.set_cons_succ]
        refine take_at 6 16 (v := ?vb6) rfl rfl (by kernel_rfl) (by kernel_rfl) (by kernel_rfl) (fun _ _ _ h => h) (by rfl) ?yb6 (by assumption) ?rb6
        case yb6 => (intro w hSw; (try dsimp only at hSw); (first | (go_simp; done) | (go_simp; with_reducible rfl)))
        try simp only [Act.put, List.setIfInBounds_toArray, List.set_cons_zero, List.set_cons_succ]
        refine pass_at 7 17 rfl rfl (by kernel_rfl) (by kernel_rfl) (by kernel_rfl) (fun _ _ _ h => h) (by rfl) (by assumption) ?_
        try simp only [Act.put, List.setIfInBounds_toArray, List.set_cons_zero, List.set_cons_succ]
        refine pass_at 8 18 rfl rfl (by kernel_rfl) (by kernel_rfl) (by kernel_rfl) (fun _ _ _ h => h) (by rfl) (by assumption) ?_
        try simp only [Act.put, List.setIfInBounds_toArray, List.set_cons_zero, List.set_cons_succ]
        refine pass_at 9 19 rfl rfl (by kernel_rfl) (by kernel_rfl) (by kernel_rfl) (fun _ _ _ h => h) (by rfl) (by assumption) ?_
        try simp only [Act.put, List.setIfInBounds_toArray, List.set_cons_zero, List.set_cons_succ]
        refine pass_at 10 20 rfl rfl (by kernel_rfl) (by kernel_rfl) (by kernel_rfl) (fun _ _ _ h => h) (by rfl) (by assumption) ?_
        try simp only [Act.put, List.setIfInBounds_toArray, List.set_cons_zero, List.set_cons_succ]
        refine pass_at 11 21 rfl rfl (by kernel_rfl) (by kernel_rfl) (by kernel_rfl) (fun _ _ _ h => h) (by rfl) (by assumption) ?_
        try simp only [Act.put, List.setIfInBounds_toArray, List.set_cons_zero, List.set_cons_succ]
        refine pass_at 12 22 rfl rfl (by kernel_rfl) (by kernel_rfl) (by kernel_rfl) (fun _ _ _ h => h) (by rfl) (by assumption) ?_
        try simp only [Act.put, List.setIfInBounds_toArray, List.set_cons_zero, List.set_cons_succ]
        refine pass_at 13 23 rfl rfl (by kernel_rfl) (by kernel_rfl) (by kernel_rfl) (fun _ _ _ h => h) (by rfl) (by assumption) ?_
        try simp only [Act.put, List.setIfInBounds_toArray, List.set_cons_zero, List.set_cons_succ]
        refine pass_at 14 24 rfl rfl (by kernel_rfl) (by kernel_rfl) (by kernel_rfl) (fun _ _ _ h => h) (by rfl) (by assumption) ?_
        try simp only [Act.put, List.setIfInBounds_toArray, List.set_cons_zero, List.set_cons_succ]
        refine pass_at 15 25 rfl rfl (by kernel_rfl) (by kernel_rfl) (by kernel_rfl) (fun _ _ _ h => h) (by rfl) (by assumption) ?_
        try simp only [Act.put, List.setIfInBounds_toArray, List.set_cons_zero, List.set_cons_succ]
        refine pass_at 16 26 rfl rfl (by kernel_rfl) (by kernel_rfl) (by kernel_rfl) (fun _ _ _ h => h) (by rfl) (by assumption) ?_
        try simp only [Act.put, List.setIfInBounds_toArray, List.set_cons_zero, List.set_cons_succ]
        refine pass_at 17 27 rfl rfl (by kernel_rfl) (by kernel_rfl) (by kernel_rfl) (fun _ _ _ h => h) (by rfl) (by assumption) ?_
        try simp only [Act.put, List.setIfInBounds_toArray, List.set_cons_zero, List.set_cons_succ]
        refine pass_at 18 28 rfl rfl (by kernel_rfl) (by kernel_rfl) (by kernel_rfl) (fun _ _ _ h => h) (by rfl) (by assumption) ?_
        try simp only [Act.put, List.setIfInBounds_toArray, List.set_cons_zero, List.set_cons_succ]
        refine pass_at 19 29 rfl rfl (by kernel_rfl) (by kernel_rfl) (by kernel_rfl) (fun _ _ _ h => h) (by rfl) (by assumption) ?_
        try simp only [Act.put, List.setIfInBounds_toArray, List.set_cons_zero, List.set_cons_succ]
        refine pass_at 20 30 rfl rfl (by kernel_rfl) (by kernel_rfl) (by kernel_rfl) (fun _ _ _ h => h) (by rfl) (by assumption) ?_
        try simp only [Act.put, List.setIfInBounds_toArray, List.set_cons_zero, List.set_cons_succ]
        refine pass_at 21 31 rfl rfl (by kernel_rfl) (by kernel_rfl) (by kernel_rfl) (fun _ _ _ h => h) (by rfl) (by assumption) ?_
        try simp only [Act.put, List.setIfInBounds_toArray, List.set_cons_zero, List.set_cons_succ]
        refine pass_at 22 32 rfl rfl (by kernel_rfl) (by kernel_rfl) (by kernel_rfl) (fun _ _ _ h => h) (by rfl) (by assumption) ?_
        try simp only [Act.put, List.setIfInBounds_toArray, List.set_cons_zero, List.set_cons_succ]
        refine take_at 23 33 (v := ?vb23) rfl rfl (by kernel_rfl) (by kernel_rfl) (by kernel_rfl) (fun _ _ _ h => h) (by rfl) ?yb23 (by assumption) ?rb23
        case yb23 => (intro w hSw; (try dsimp only at hSw); (first | (go_simp; done) | (go_simp; with_reducible rfl)))
        try simp only [Act.put, List.setIfInBounds_toArray, List.set_cons_zero, List.set_cons_succ]
        refine wpAnyH_done (by kernel_rfl) ?_ _
        go_wp2_with fail
        go_ret
        exact ⟨by rw [← HR.out, decide_eq_false HF.out]; rfl, HG.out.trans (by ((repeat (first | (with_reducible assumption) | (with_reducible exact Gr.refl _) | (with_reducible refine Gr.drew ?_) | (with_reducible refine Gr.alloc ?_ _) | (with_reducible refine Gr.trans ?_ (by assumption)))); (first | done | fail)))⟩

    · obtain rfl : k = n := by omega
      have d0 : decide ((k : Int) < (k : Int)) = false := decide_eq_false (by omega)
      have h1 := HT.out
      rw [List.take_of_length_le (by rw [HL.out]; exact Nat.le_refl _)] at h1
      have d2 : decide ((k : Int) ≤ 64) = r := by rw [← HR.out]; exact decide_eq_decide.2 ⟨fun x => ⟨by omega, h1⟩, fun x => by omega⟩
      clear h1
      go_wp2_with fail
      go_ret
      exact ⟨rfl, HG.out⟩
end Go.Proofs.Ytadmiecoahohiaa
