/- Which attributions and which lists of changes are valid, of both sides. -/
import Derived.Test.YtadmiecoahohiaaUB
namespace Go.Proofs.Ytadmiecoahohiaa
open Go Go.RowKit Go.Lib
theorem srt_step {α : Type} {κ : α → Int} {ys : List α} {p : Nat} {x y : α} (hx : ys[p]? = some x) (hy : ys[p + 1]? = some y) : Srt κ (ys.take (p + 2)) ↔ Srt κ (ys.take (p + 1)) ∧ κ x < κ y := by
  rw [show p + 2 = (p + 1) + 1 from rfl, take_next hy]
  have hx' : x ∈ ys.take (p + 1) := by rw [take_next hx]; exact List.mem_append.2 (.inr (List.mem_singleton.2 rfl))
  constructor
  · intro h
    have h2 := List.pairwise_append.1 h
    exact ⟨h2.1, h2.2.2 x hx' y (List.mem_singleton.2 rfl)⟩
  · rintro ⟨h, h2⟩
    refine Srt.snoc h fun z hz => ?_
    rw [take_next hx] at h hz
    rcases List.mem_append.1 hz with h3 | h3
    · have := (List.pairwise_append.1 h).2.2 z h3 x (List.mem_singleton.2 rfl)
      omega
    · rw [List.mem_singleton] at h3
      rw [h3]; exact h2
theorem srt_of_take {α : Type} {κ : α → Int} {ys : List α} {p : Nat} (h : Srt κ ys) : Srt κ (ys.take p) := srt_take h p
theorem srt_one {α : Type} {κ : α → Int} (ys : List α) : Srt κ (ys.take 1) := by
  cases ys with
  | nil => exact List.Pairwise.nil
  | cons x ys => exact List.pairwise_singleton _ _

set_option maxHeartbeats 4000000 in
theorem ascE_any (A : Option Addr) (n c : Nat) (ys : List Ent) (w : World) (hs : SL eE w A n ys) (hn : n ≤ 1000) (r : Bool) (hr : decide (Srt Ent.k ys) = r) :
    Calls Try.prog 38 #[.slice A n c, .func (.func 39) #[] #[]] w fun e w' => e = .returned (.bool r) ∧ Gr w w' := by
  have HS := hide hs
  have HR := hide hr
  have HL := hide hs.1
  clear hs hr
  go_enter Try.func38, Try.ntmps38
  go_wp2_with fail
  go_loopw [5] (fun i wr => ∃ k : Nat, i = .int .i64 ((k : Int) + 1) ∧ k ≤ n ∧ Hid (Srt Ent.k (ys.take (k + 1))) ∧ Hid (Gr w wr)) (fun i _ => (n : Nat) + 1 - (RowKit.intOf i).toNat)
  case atStart => exact ⟨0, rfl, Nat.zero_le _, hide (srt_one _), hide (Gr.refl _)⟩
  case round =>
    obtain ⟨k, rfl, hk, HT, HG⟩ := hrel
    by_cases hlt : k + 1 < n
    · obtain ⟨b, o, x, rfl, hl, hx, hcx⟩ := (HS.out.keep HG.out.below).atE (show k < n by omega)
      obtain ⟨b', o', y, e, hl', hy, hcy⟩ := (HS.out.keep HG.out.below).atE hlt
      injection e with e
      injection e with e1 e2
      subst e1
      subst e2
      have HXY := hide (And.intro hx hy)
      have KS : Hid (∀ w', Gr wr w' → w'.cell? ⟨b, o + k * 2, none⟩ = some (.int .i64 x.k) ∧ w'.cell? ⟨b, o + k * 2 + 1, none⟩ = some (.int .i64 x.v) ∧ w'.cell? ⟨b, o + (k + 1) * 2, none⟩ = some (.int .i64 y.k) ∧ w'.cell? ⟨b, o + (k + 1) * 2 + 1, none⟩ = some (.int .i64 y.v)) := fun w' g => by
        have ex : ∀ p : Addr, p.block < wr.heap.size → w'.cell? p = wr.cell? p := fun p hp => g.below.cell hp
        rw [ex ⟨b, o + k * 2, none⟩ hl, ex ⟨b, o + k * 2 + 1, none⟩ hl, ex ⟨b, o + (k + 1) * 2, none⟩ hl, ex ⟨b, o + (k + 1) * 2 + 1, none⟩ hl]
        exact ⟨hcx.1, hcx.2, hcy.1, hcy.2⟩
      have d0 : decide ((k : Int) + 1 < (n : Int)) = true := decide_eq_true (by omega)
      have a0 : IntKind.i64.wrap ((k : Int) + 1 - 1) = (k : Int) := by rw [IntKind.wrap_i64]; omega
      have a1 : (0 : Int) ≤ (k : Int) := by omega
      have a6 : IntKind.i64.wrap (k : Int) = (k : Int) := by rw [IntKind.wrap_i64]; omega
      have a2 : (k : Int) < (n : Int) := by omega
      have a3 : (0 : Int) ≤ (k : Int) + 1 := by omega
      have a4 : (k : Int) + 1 < (n : Int) := by omega
      have a5 : ((k : Int) + 1).toNat = k + 1 := by omega
      clear hx hy hcx hcy
      by_cases hk2 : x.k < y.k
      · skip
        have d1 : decide (y.k ≤ x.k) = false := decide_eq_false (by omega)
        have HK := hide hk2
        clear hk2
        go_wp2_with fail
        go_region_held3 (fun w' => w'.cell? ⟨b, o + k * 2, none⟩ = some (.int .i64 x.k) ∧ w'.cell? ⟨b, o + k * 2 + 1, none⟩ = some (.int .i64 x.v) ∧ w'.cell? ⟨b, o + (k + 1) * 2, none⟩ = some (.int .i64 y.k) ∧ w'.cell? ⟨b, o + (k + 1) * 2 + 1, none⟩ = some (.int .i64 y.v))
          (exact KS.out _ (by ((repeat (first | (with_reducible assumption) | (with_reducible exact Gr.refl _) | (with_reducible refine Gr.drew ?_) | (with_reducible refine Gr.alloc ?_ _) | (with_reducible refine Gr.trans ?_ (by assumption)))); (first | done | fail))))
          (first
            | (go_at_call_of 39 (Value.agg #[.int .i64 x.k, .int .i64 x.v]); (with_reducible refine (keyE_any x _).mono ?_); rintro e w1 ⟨rfl, hg⟩)
            | (go_at_call_of 39 (Value.agg #[.int .i64 y.k, .int .i64 y.v]); (with_reducible refine (keyE_any y _).mono ?_); rintro e w1 ⟨rfl, hg⟩))
        all_goals
          go_wp2_with fail
          go_roundw
          case rel => exact ⟨k + 1, by go_num, by omega, hide ((srt_step HXY.out.1 HXY.out.2).2 ⟨HT.out, HK.out⟩), hide (HG.out.trans (by ((repeat (first | (with_reducible assumption) | (with_reducible exact Gr.refl _) | (with_reducible refine Gr.drew ?_) | (with_reducible refine Gr.alloc ?_ _) | (with_reducible refine Gr.trans ?_ (by assumption)))); (first | done | fail))))⟩
          case measure => simp [RowKit.intOf]; omega

      · skip
        have d1 : decide (y.k ≤ x.k) = true := decide_eq_true (by omega)
        have HK := hide hk2
        clear hk2
        go_wp2_with fail
        go_region_held3 (fun w' => w'.cell? ⟨b, o + k * 2, none⟩ = some (.int .i64 x.k) ∧ w'.cell? ⟨b, o + k * 2 + 1, none⟩ = some (.int .i64 x.v) ∧ w'.cell? ⟨b, o + (k + 1) * 2, none⟩ = some (.int .i64 y.k) ∧ w'.cell? ⟨b, o + (k + 1) * 2 + 1, none⟩ = some (.int .i64 y.v))
          (exact KS.out _ (by ((repeat (first | (with_reducible assumption) | (with_reducible exact Gr.refl _) | (with_reducible refine Gr.drew ?_) | (with_reducible refine Gr.alloc ?_ _) | (with_reducible refine Gr.trans ?_ (by assumption)))); (first | done | fail))))
          (first
            | (go_at_call_of 39 (Value.agg #[.int .i64 x.k, .int .i64 x.v]); (with_reducible refine (keyE_any x _).mono ?_); rintro e w1 ⟨rfl, hg⟩)
            | (go_at_call_of 39 (Value.agg #[.int .i64 y.k, .int .i64 y.v]); (with_reducible refine (keyE_any y _).mono ?_); rintro e w1 ⟨rfl, hg⟩))
        all_goals
          go_wp2_with fail
          go_ret
          exact ⟨by rw [← HR.out, decide_eq_false fun h => by have h2 := ((srt_step HXY.out.1 HXY.out.2).1 (srt_of_take h)).2; have h3 := HK.out; omega]; rfl, HG.out.trans (by ((repeat (first | (with_reducible assumption) | (with_reducible exact Gr.refl _) | (with_reducible refine Gr.drew ?_) | (with_reducible refine Gr.alloc ?_ _) | (with_reducible refine Gr.trans ?_ (by assumption)))); (first | done | fail)))⟩

    · have d0 : decide ((k : Int) + 1 < (n : Int)) = false := decide_eq_false (by omega)
      go_wp2_with fail
      go_ret
      have h1 := HT.out
      rw [List.take_of_length_le (by rw [HL.out]; omega)] at h1
      exact ⟨by rw [← HR.out, decide_eq_true h1]; rfl, HG.out⟩

set_option maxHeartbeats 4000000 in
theorem ascC_any (A : Option Addr) (n c : Nat) (ys : List Chg) (w : World) (hs : SL eC w A n ys) (hn : n ≤ 1000) (r : Bool) (hr : decide (Srt Chg.k ys) = r) :
    Calls Try.prog 41 #[.slice A n c, .func (.func 42) #[] #[]] w fun e w' => e = .returned (.bool r) ∧ Gr w w' := by
  have HS := hide hs
  have HR := hide hr
  have HL := hide hs.1
  clear hs hr
  go_enter Try.func41, Try.ntmps41
  go_wp2_with fail
  go_loopw [5] (fun i wr => ∃ k : Nat, i = .int .i64 ((k : Int) + 1) ∧ k ≤ n ∧ Hid (Srt Chg.k (ys.take (k + 1))) ∧ Hid (Gr w wr)) (fun i _ => (n : Nat) + 1 - (RowKit.intOf i).toNat)
  case atStart => exact ⟨0, rfl, Nat.zero_le _, hide (srt_one _), hide (Gr.refl _)⟩
  case round =>
    obtain ⟨k, rfl, hk, HT, HG⟩ := hrel
    by_cases hlt : k + 1 < n
    · obtain ⟨b, o, x, rfl, hl, hx, hcx⟩ := (HS.out.keep HG.out.below).atC (show k < n by omega)
      obtain ⟨b', o', y, e, hl', hy, hcy⟩ := (HS.out.keep HG.out.below).atC hlt
      injection e with e
      injection e with e1 e2
      subst e1
      subst e2
      have HXY := hide (And.intro hx hy)
      have KS : Hid (∀ w', Gr wr w' → w'.cell? ⟨b, o + k * 5, none⟩ = some (.int .i64 x.k) ∧ w'.cell? ⟨b, o + k * 5 + 1, none⟩ = some (.int .i64 x.o) ∧ w'.cell? ⟨b, o + k * 5 + 2, none⟩ = some (.int .i64 x.n) ∧ w'.cell? ⟨b, o + k * 5 + 3, none⟩ = some (.bool x.h) ∧ w'.cell? ⟨b, o + k * 5 + 4, none⟩ = some (.bool x.s) ∧ w'.cell? ⟨b, o + (k + 1) * 5, none⟩ = some (.int .i64 y.k) ∧ w'.cell? ⟨b, o + (k + 1) * 5 + 1, none⟩ = some (.int .i64 y.o) ∧ w'.cell? ⟨b, o + (k + 1) * 5 + 2, none⟩ = some (.int .i64 y.n) ∧ w'.cell? ⟨b, o + (k + 1) * 5 + 3, none⟩ = some (.bool y.h) ∧ w'.cell? ⟨b, o + (k + 1) * 5 + 4, none⟩ = some (.bool y.s)) := fun w' g => by
        have ex : ∀ p : Addr, p.block < wr.heap.size → w'.cell? p = wr.cell? p := fun p hp => g.below.cell hp
        rw [ex ⟨b, o + k * 5, none⟩ hl, ex ⟨b, o + k * 5 + 1, none⟩ hl, ex ⟨b, o + k * 5 + 2, none⟩ hl, ex ⟨b, o + k * 5 + 3, none⟩ hl, ex ⟨b, o + k * 5 + 4, none⟩ hl, ex ⟨b, o + (k + 1) * 5, none⟩ hl, ex ⟨b, o + (k + 1) * 5 + 1, none⟩ hl, ex ⟨b, o + (k + 1) * 5 + 2, none⟩ hl, ex ⟨b, o + (k + 1) * 5 + 3, none⟩ hl, ex ⟨b, o + (k + 1) * 5 + 4, none⟩ hl]
        exact ⟨hcx.1, hcx.2.1, hcx.2.2.1, hcx.2.2.2.1, hcx.2.2.2.2, hcy.1, hcy.2.1, hcy.2.2.1, hcy.2.2.2.1, hcy.2.2.2.2⟩
      have d0 : decide ((k : Int) + 1 < (n : Int)) = true := decide_eq_true (by omega)
      have a0 : IntKind.i64.wrap ((k : Int) + 1 - 1) = (k : Int) := by rw [IntKind.wrap_i64]; omega
      have a1 : (0 : Int) ≤ (k : Int) := by omega
      have a6 : IntKind.i64.wrap (k : Int) = (k : Int) := by rw [IntKind.wrap_i64]; omega
      have a2 : (k : Int) < (n : Int) := by omega
      have a3 : (0 : Int) ≤ (k : Int) + 1 := by omega
      have a4 : (k : Int) + 1 < (n : Int) := by omega
      have a5 : ((k : Int) + 1).toNat = k + 1 := by omega
      clear hx hy hcx hcy
      by_cases hk2 : x.k < y.k
      · skip
        have d1 : decide (y.k ≤ x.k) = false := decide_eq_false (by omega)
        have HK := hide hk2
        clear hk2
        go_wp2_with fail
        go_region_held3 (fun w' => w'.cell? ⟨b, o + k * 5, none⟩ = some (.int .i64 x.k) ∧ w'.cell? ⟨b, o + k * 5 + 1, none⟩ = some (.int .i64 x.o) ∧ w'.cell? ⟨b, o + k * 5 + 2, none⟩ = some (.int .i64 x.n) ∧ w'.cell? ⟨b, o + k * 5 + 3, none⟩ = some (.bool x.h) ∧ w'.cell? ⟨b, o + k * 5 + 4, none⟩ = some (.bool x.s) ∧ w'.cell? ⟨b, o + (k + 1) * 5, none⟩ = some (.int .i64 y.k) ∧ w'.cell? ⟨b, o + (k + 1) * 5 + 1, none⟩ = some (.int .i64 y.o) ∧ w'.cell? ⟨b, o + (k + 1) * 5 + 2, none⟩ = some (.int .i64 y.n) ∧ w'.cell? ⟨b, o + (k + 1) * 5 + 3, none⟩ = some (.bool y.h) ∧ w'.cell? ⟨b, o + (k + 1) * 5 + 4, none⟩ = some (.bool y.s))
          (exact KS.out _ (by ((repeat (first | (with_reducible assumption) | (with_reducible exact Gr.refl _) | (with_reducible refine Gr.drew ?_) | (with_reducible refine Gr.alloc ?_ _) | (with_reducible refine Gr.trans ?_ (by assumption)))); (first | done | fail))))
          (first
            | (go_at_call_of 42 (Value.agg #[.int .i64 x.k, .int .i64 x.o, .int .i64 x.n, .bool x.h, .bool x.s]); (with_reducible refine (keyC_any x _).mono ?_); rintro e w1 ⟨rfl, hg⟩)
            | (go_at_call_of 42 (Value.agg #[.int .i64 y.k, .int .i64 y.o, .int .i64 y.n, .bool y.h, .bool y.s]); (with_reducible refine (keyC_any y _).mono ?_); rintro e w1 ⟨rfl, hg⟩))
        all_goals
          go_wp2_with fail
          go_roundw
          case rel => exact ⟨k + 1, by go_num, by omega, hide ((srt_step HXY.out.1 HXY.out.2).2 ⟨HT.out, HK.out⟩), hide (HG.out.trans (by ((repeat (first | (with_reducible assumption) | (with_reducible exact Gr.refl _) | (with_reducible refine Gr.drew ?_) | (with_reducible refine Gr.alloc ?_ _) | (with_reducible refine Gr.trans ?_ (by assumption)))); (first | done | fail))))⟩
          case measure => simp [RowKit.intOf]; omega

      · skip
        have d1 : decide (y.k ≤ x.k) = true := decide_eq_true (by omega)
        have HK := hide hk2
        clear hk2
        go_wp2_with fail
        go_region_held3 (fun w' => w'.cell? ⟨b, o + k * 5, none⟩ = some (.int .i64 x.k) ∧ w'.cell? ⟨b, o + k * 5 + 1, none⟩ = some (.int .i64 x.o) ∧ w'.cell? ⟨b, o + k * 5 + 2, none⟩ = some (.int .i64 x.n) ∧ w'.cell? ⟨b, o + k * 5 + 3, none⟩ = some (.bool x.h) ∧ w'.cell? ⟨b, o + k * 5 + 4, none⟩ = some (.bool x.s) ∧ w'.cell? ⟨b, o + (k + 1) * 5, none⟩ = some (.int .i64 y.k) ∧ w'.cell? ⟨b, o + (k + 1) * 5 + 1, none⟩ = some (.int .i64 y.o) ∧ w'.cell? ⟨b, o + (k + 1) * 5 + 2, none⟩ = some (.int .i64 y.n) ∧ w'.cell? ⟨b, o + (k + 1) * 5 + 3, none⟩ = some (.bool y.h) ∧ w'.cell? ⟨b, o + (k + 1) * 5 + 4, none⟩ = some (.bool y.s))
          (exact KS.out _ (by ((repeat (first | (with_reducible assumption) | (with_reducible exact Gr.refl _) | (with_reducible refine Gr.drew ?_) | (with_reducible refine Gr.alloc ?_ _) | (with_reducible refine Gr.trans ?_ (by assumption)))); (first | done | fail))))
          (first
            | (go_at_call_of 42 (Value.agg #[.int .i64 x.k, .int .i64 x.o, .int .i64 x.n, .bool x.h, .bool x.s]); (with_reducible refine (keyC_any x _).mono ?_); rintro e w1 ⟨rfl, hg⟩)
            | (go_at_call_of 42 (Value.agg #[.int .i64 y.k, .int .i64 y.o, .int .i64 y.n, .bool y.h, .bool y.s]); (with_reducible refine (keyC_any y _).mono ?_); rintro e w1 ⟨rfl, hg⟩))
        all_goals
          go_wp2_with fail
          go_ret
          exact ⟨by rw [← HR.out, decide_eq_false fun h => by have h2 := ((srt_step HXY.out.1 HXY.out.2).1 (srt_of_take h)).2; have h3 := HK.out; omega]; rfl, HG.out.trans (by ((repeat (first | (with_reducible assumption) | (with_reducible exact Gr.refl _) | (with_reducible refine Gr.drew ?_) | (with_reducible refine Gr.alloc ?_ _) | (with_reducible refine Gr.trans ?_ (by assumption)))); (first | done | fail)))⟩

    · have d0 : decide ((k : Int) + 1 < (n : Int)) = false := decide_eq_false (by omega)
      go_wp2_with fail
      go_ret
      have h1 := HT.out
      rw [List.take_of_length_le (by rw [HL.out]; omega)] at h1
      exact ⟨by rw [← HR.out, decide_eq_true h1]; rfl, HG.out⟩

set_option maxHeartbeats 2000000 in
theorem valid_any (A : Option Addr) (n c : Nat) (ys : List Ent) (w : World) (hs : SL eE w A n ys) (hn : n ≤ 1000) (r : Bool) (hr : vE ys = r) :
    Calls Try.prog 16 #[.slice A n c] w fun e w' => e = .returned (.bool r) ∧ Gr w w' := by
  unfold vE at hr
  rw [hs.1] at hr
  by_cases h : n ≤ 64
  · have HA := hide (ascE_any A n c ys w hs hn r (by rw [← hr]; exact decide_eq_decide.2 ⟨fun x => ⟨h, x⟩, fun x => x.2⟩))
    have d0 : decide ((n : Int) ≤ 64) = true := decide_eq_true (by omega)
    clear hr hs
    go_enter Try.func16, Try.ntmps16
    go_wp2_with fail
    refine HA.out.mono ?_
    rintro e w1 ⟨rfl, g⟩
    have G := hide g
    clear g
    go_wp2_with fail
    go_ret
    exact ⟨rfl, G.out⟩
  · obtain rfl : r = false := by rw [← hr]; exact decide_eq_false fun x => h x.1
    have d0 : decide ((n : Int) ≤ 64) = false := decide_eq_false (by omega)
    clear hr hs
    go_enter Try.func16, Try.ntmps16
    go_wp2_with fail
    go_ret
    exact ⟨rfl, Gr.refl _⟩
set_option maxHeartbeats 4000000 in
theorem ordered_any (A : Option Addr) (n c : Nat) (ys : List Ent) (w : World) (hs : SL eE w A n ys) (hn : n ≤ 1000) (r : Bool) (hr : vE ys = r) :
    Calls Try.prog 40 #[.slice A n c, .int .i64 64] w fun e w' => e = .returned (.bool r) ∧ Gr w w' := by
  have HS := hide hs
  have HL := hide hs.1
  have HR := hide (show decide (n ≤ 64 ∧ Srt Ent.k ys) = r by rw [← hr]; unfold vE; rw [hs.1])
  clear hs hr
  go_enter Try.func40, Try.ntmps40
  go_wp2_with fail
  go_loopw [5] (fun i wr => ∃ k : Nat, i = .int .i64 ((k : Int) + 1) ∧ k ≤ n ∧ Hid (Srt Ent.k (ys.take (k + 1))) ∧ Hid (Gr w wr)) (fun i _ => (n : Nat) + 1 - (RowKit.intOf i).toNat)
  case atStart => exact ⟨0, rfl, Nat.zero_le _, hide (srt_one _), hide (Gr.refl _)⟩
  case round =>
    obtain ⟨k, rfl, hk, HT, HG⟩ := hrel
    by_cases hlt : k + 1 < n
    · obtain ⟨b, o, x, rfl, hl, hx, k0, k1⟩ := (HS.out.keep HG.out.below).atE (show k < n by omega)
      obtain ⟨b', o', y, e, hl', hy, m0, m1⟩ := (HS.out.keep HG.out.below).atE hlt
      injection e with e
      injection e with e1 e2
      subst e1
      subst e2
      have HXY := hide (And.intro hx hy)
      have d0 : decide ((k : Int) + 1 < (n : Int)) = true := decide_eq_true (by omega)
      have a0 : IntKind.i64.wrap ((k : Int) + 1 - 1) = (k : Int) := by rw [IntKind.wrap_i64]; omega
      have a1 : (0 : Int) ≤ (k : Int) := by omega
      have a2 : (k : Int) < (n : Int) := by omega
      have a3 : (0 : Int) ≤ (k : Int) + 1 := by omega
      have a4 : (k : Int) + 1 < (n : Int) := by omega
      have a5 : ((k : Int) + 1).toNat = k + 1 := by omega
      clear hx hy
      by_cases hk2 : x.k < y.k
      · have d1 : decide (y.k ≤ x.k) = false := decide_eq_false (by omega)
        have HK := hide hk2
        clear hk2
        go_wp2_with fail
        go_region
        all_goals
          go_wp2_with fail
          go_roundw
          case rel => exact ⟨k + 1, by go_num, by omega, hide ((srt_step HXY.out.1 HXY.out.2).2 ⟨HT.out, HK.out⟩), hide (HG.out.trans (by ((repeat (first | (with_reducible assumption) | (with_reducible exact Gr.refl _) | (with_reducible refine Gr.drew ?_) | (with_reducible refine Gr.alloc ?_ _) | (with_reducible refine Gr.trans ?_ (by assumption)))); (first | done | fail))))⟩
          case measure => simp [RowKit.intOf]; omega
      · have d1 : decide (y.k ≤ x.k) = true := decide_eq_true (by omega)
        have HK := hide hk2
        clear hk2
        go_wp2_with fail
        go_region
        all_goals
          go_wp2_with fail
          go_ret
          exact ⟨by rw [← HR.out, decide_eq_false fun h => by have h2 := ((srt_step HXY.out.1 HXY.out.2).1 (srt_of_take h.2)).2; have h3 := HK.out; omega]; rfl, HG.out.trans (by ((repeat (first | (with_reducible assumption) | (with_reducible exact Gr.refl _) | (with_reducible refine Gr.drew ?_) | (with_reducible refine Gr.alloc ?_ _) | (with_reducible refine Gr.trans ?_ (by assumption)))); (first | done | fail)))⟩
    · have d0 : decide ((k : Int) + 1 < (n : Int)) = false := decide_eq_false (by omega)
      have h1 := HT.out
      rw [List.take_of_length_le (by rw [HL.out]; omega)] at h1
      have d2 : decide ((n : Int) ≤ 64) = r := by rw [← HR.out]; exact decide_eq_decide.2 ⟨fun x => ⟨by omega, h1⟩, fun x => by omega⟩
      clear h1
      go_wp2_with fail
      go_ret
      exact ⟨rfl, HG.out⟩
set_option maxHeartbeats 1000000 in
theorem rvalid_any (A : Option Addr) (n c : Nat) (ys : List Ent) (w : World) (hs : SL eE w A n ys) (hn : n ≤ 1000) (r : Bool) (hr : vE ys = r) :
    Calls Try.prog 17 #[.slice A n c] w fun e w' => e = .returned (.bool r) ∧ Gr w w' := by
  have HA := hide (ordered_any A n c ys w hs hn r hr)
  clear hr hs
  go_enter Try.func17, Try.ntmps17
  go_wp2_with fail
  refine HA.out.mono ?_
  rintro e w1 ⟨rfl, g⟩
  have G := hide g
  clear g
  go_wp2_with fail
  go_ret
  exact ⟨rfl, G.out⟩
end Go.Proofs.Ytadmiecoahohiaa
