/- slices.BinarySearchFunc at decisions and at marks. -/
import Derived.Test.YtalbdclcappjpaaGreatDC
import Derived.Deep.LoopGhost
import Derived.IntWalk
namespace Go.Proofs.YtalbdclcappjpaaGreat
open Go Go.RowKit Go.Lib
theorem or2_lt {x y : Mk} (hx : vM x = true) (hy : vM y = true) : (cmpM x y < 0 ↔ x.key < y.key) ∧ (cmpM x y = 0 ↔ x.key = y.key) := by
  rw [vM_true] at hx hy
  unfold cmpM or2 cI Mk.key
  constructor
  · split <;> split <;> (try split) <;> (try split) <;> omega
  · split <;> split <;> (try split) <;> (try split) <;> omega
theorem wrap_lh {lo hi : Nat} (h : lo + hi ≤ 2000) : wrap64 ((lo : Int) + (hi : Int)) = (lo : Int) + (hi : Int) := by unfold wrap64; omega
theorem wrap_lhU {lo hi : Nat} (h : lo + hi ≤ 2000) : IntKind.u64.wrap ((lo : Int) + (hi : Int)) = (lo : Int) + (hi : Int) := IntWalk.u64_in _ (by omega)
/-- one with this key is there -/
def fnd {α : Type} (κ : α → Int) (k : Int) (l : List α) : Bool := decide (∃ y, l[cnt κ k l]? = some y ∧ κ y = k)
set_option maxHeartbeats 4000000 in
theorem cl_any (x : Dec) (m : Mk) (w : World) (r : Int) (hr : cmpM x.mk_ m = r) :
    Calls Tryz.prog 64 #[.agg #[.int .i64 x.u, .int .i64 x.n, .int .i64 x.k, .int .i64 x.a, .int .i64 x.b], .agg #[.int .i64 m.u, .int .i64 m.n]] w fun e w' => e = .returned (.int .i64 r) ∧ Gr w w' := by
  have HR := hide hr
  clear hr
  go_enter Tryz.func64, Tryz.ntmps64
  go_wp2_with fail
  generalize hW : (w.alloc _).alloc _ = W
  obtain ⟨B, bx, by'⟩ : Gr w W ∧ Box W w.heap.size #[.int .i64 x.u, .int .i64 x.n, .int .i64 x.k, .int .i64 x.a, .int .i64 x.b] 44 ∧ Box W (w.heap.size + 1) #[.int .i64 m.u, .int .i64 m.n] 46 := by
    subst hW
    exact ⟨(by ((repeat (first | (with_reducible assumption) | (with_reducible exact Gr.refl _) | (with_reducible refine Gr.drew ?_) | (with_reducible refine Gr.alloc ?_ _) | (with_reducible refine Gr.trans ?_ (by assumption)))); (first | done | fail))), (Box.new _ _ _).alloc _, newE _ _ _ (by simp)⟩
  clear hW
  have lx := bx.lt
  have ly := by'.lt
  have KS : Hid (∀ w', Gr W w' → w'.cell? ⟨w.heap.size, 0, none⟩ = some (.int .i64 x.u) ∧ w'.cell? ⟨w.heap.size, 1, none⟩ = some (.int .i64 x.n) ∧ w'.cell? ⟨w.heap.size, 2, none⟩ = some (.int .i64 x.k) ∧ w'.cell? ⟨w.heap.size, 3, none⟩ = some (.int .i64 x.a) ∧ w'.cell? ⟨w.heap.size, 4, none⟩ = some (.int .i64 x.b) ∧ w'.cell? ⟨w.heap.size + 1, 0, none⟩ = some (.int .i64 m.u) ∧ w'.cell? ⟨w.heap.size + 1, 1, none⟩ = some (.int .i64 m.n)) := fun w' h => ⟨(bx.below h.below lx).at_ 0, (bx.below h.below lx).at_ 1, (bx.below h.below lx).at_ 2, (bx.below h.below lx).at_ 3, (bx.below h.below lx).at_ 4, (by'.below h.below ly).at_ 0, (by'.below h.below ly).at_ 1⟩
  go_region_held3 (fun w' => w'.cell? ⟨w.heap.size, 0, none⟩ = some (.int .i64 x.u) ∧ w'.cell? ⟨w.heap.size, 1, none⟩ = some (.int .i64 x.n) ∧ w'.cell? ⟨w.heap.size, 2, none⟩ = some (.int .i64 x.k) ∧ w'.cell? ⟨w.heap.size, 3, none⟩ = some (.int .i64 x.a) ∧ w'.cell? ⟨w.heap.size, 4, none⟩ = some (.int .i64 x.b) ∧ w'.cell? ⟨w.heap.size + 1, 0, none⟩ = some (.int .i64 m.u) ∧ w'.cell? ⟨w.heap.size + 1, 1, none⟩ = some (.int .i64 m.n))
    (exact KS.out _ (by ((repeat (first | (with_reducible assumption) | (with_reducible exact Gr.refl _) | (with_reducible refine Gr.drew ?_) | (with_reducible refine Gr.alloc ?_ _) | (with_reducible refine Gr.trans ?_ (by assumption)))); (first | done | fail))))
    (first
      | (go_at_call 42; (with_reducible refine (mark_any x _).mono ?_); rintro e w1 ⟨rfl, hg⟩)
      | (go_at_call 30; (with_reducible refine (cmpM_any x.mk_ m _ r HR.out).mono ?_); rintro e w1 ⟨rfl, hg⟩))
  all_goals
    go_wp2_with fail
    go_ret
    exact ⟨rfl, B.trans (by ((repeat (first | (with_reducible assumption) | (with_reducible exact Gr.refl _) | (with_reducible refine Gr.drew ?_) | (with_reducible refine Gr.alloc ?_ _) | (with_reducible refine Gr.trans ?_ (by assumption)))); (first | done | fail)))⟩

set_option maxHeartbeats 8000000 in
theorem bsM_any (A : Option Addr) (n c : Nat) (ys : List Mk) (m : Mk) (w : World) (hr : SL eM w A n ys) (hs : Srt Mk.key ys) (hv : ∀ x ∈ ys, vM x = true) (hm : vM m = true) (hn : n ≤ 1000) :
    Calls Tryz.prog 67 #[.slice A n c, .agg #[.int .i64 m.u, .int .i64 m.n], .func (.func 30) #[] #[]] w fun e w' => e = .returned (.tuple #[.int .i64 (cnt Mk.key m.key ys : Nat), .bool (fnd Mk.key m.key ys)]) ∧ Gr w w' := by
  have HR := hide hr
  have HL := hide hr.1
  have HC := hide (show ∀ y ∈ ys, (cmpM y m < 0 ↔ y.key < m.key) ∧ (cmpM y m = 0 ↔ y.key = m.key) from fun y hy => or2_lt (by have h := hv y hy; exact h) hm)
  have HS := hide hs
  clear hr hv hm hs
  go_enter Tryz.func67, Tryz.ntmps67
  go_wp2_with fail
  generalize hW : w.alloc _ = W
  obtain ⟨B, bx⟩ : Gr w W ∧ Box W w.heap.size #[.int .i64 m.u, .int .i64 m.n] 46 := by
    subst hW
    exact ⟨(by ((repeat (first | (with_reducible assumption) | (with_reducible exact Gr.refl _) | (with_reducible refine Gr.drew ?_) | (with_reducible refine Gr.alloc ?_ _) | (with_reducible refine Gr.trans ?_ (by assumption)))); (first | done | fail))), Box.new _ _ _⟩
  clear hW
  have lx := bx.lt
  go_loopg [9, 10] n (fun kx s9 s10 wr => ∃ lo hi : Nat, s9 = .int .i64 (lo : Int) ∧ s10 = .int .i64 (hi : Int) ∧ lo ≤ hi ∧ hi ≤ n ∧ hi - lo ≤ kx ∧ Hid (Gr W wr) ∧ Hid ((∀ t y, t < lo → ys[t]? = some y → y.key < m.key) ∧ (∀ t y, hi ≤ t → ys[t]? = some y → m.key ≤ y.key)))
  case atStart => exact ⟨0, n, rfl, rfl, Nat.zero_le _, Nat.le_refl _, by omega, hide (Gr.refl _), hide ⟨fun t y h => absurd h (Nat.not_lt_zero _), fun t y h hy => by have := (List.getElem?_eq_some_iff.1 hy).1; have := HL.out; omega⟩⟩
  case round =>
    obtain ⟨lo, hi, rfl, rfl, hlh, hin, hg, HG, HI⟩ := hrel
    by_cases hlt : lo < hi
    · obtain ⟨b, o, y, rfl, hl, hy, hc⟩ := (HR.out.keep (B.trans HG.out).below).atM (show (lo + hi) / 2 < n by omega)
      have HY := hide hy
      have KS : Hid (∀ w', Gr wr w' → w'.cell? ⟨b, o + ((lo + hi) / 2) * 2, none⟩ = some (.int .i64 y.u) ∧ w'.cell? ⟨b, o + ((lo + hi) / 2) * 2 + 1, none⟩ = some (.int .i64 y.n) ∧ w'.cell? ⟨w.heap.size, 0, none⟩ = some (.int .i64 m.u) ∧ w'.cell? ⟨w.heap.size, 1, none⟩ = some (.int .i64 m.n)) := fun w' g => by
        have ex : ∀ p : Addr, p.block < wr.heap.size → w'.cell? p = wr.cell? p := fun p hp => g.below.cell hp
        have bq := bx.below HG.out.below lx
        rw [ex ⟨b, o + ((lo + hi) / 2) * 2, none⟩ hl, ex ⟨b, o + ((lo + hi) / 2) * 2 + 1, none⟩ hl, ex ⟨w.heap.size, 0, none⟩ bq.lt, ex ⟨w.heap.size, 1, none⟩ bq.lt]
        exact ⟨hc.1, hc.2, bq.at_ 0, bq.at_ 1⟩
      obtain ⟨r, hr⟩ : ∃ r, cmpM y m = r := ⟨_, rfl⟩
      have HR := hide hr
      have a4 : (0 : Int) ≤ ((lo : Int) + (hi : Int)) / 2 := by omega
      have a5 : ((lo : Int) + (hi : Int)) / 2 < (n : Int) := by omega
      have a6 : (((lo : Int) + (hi : Int)) / 2).toNat = (lo + hi) / 2 := by omega
      have d0 : decide ((lo : Int) < (hi : Int)) = true := decide_eq_true (by omega)
      have hcy := HC.out y (List.mem_of_getElem? hy)
      rw [hr] at hcy
      clear hc hy hr
      by_cases hneg : r < 0
      · have HK := hide (hcy.1.1 hneg)
        have d1 : decide (r < 0) = true := decide_eq_true hneg
        clear hcy hneg
        go_wp2_with fail
        go_region_held3 (fun w' => w'.cell? ⟨b, o + ((lo + hi) / 2) * 2, none⟩ = some (.int .i64 y.u) ∧ w'.cell? ⟨b, o + ((lo + hi) / 2) * 2 + 1, none⟩ = some (.int .i64 y.n) ∧ w'.cell? ⟨w.heap.size, 0, none⟩ = some (.int .i64 m.u) ∧ w'.cell? ⟨w.heap.size, 1, none⟩ = some (.int .i64 m.n))
          (exact KS.out _ (by ((repeat (first | (with_reducible assumption) | (with_reducible exact Gr.refl _) | (with_reducible refine Gr.drew ?_) | (with_reducible refine Gr.alloc ?_ _) | (with_reducible refine Gr.trans ?_ (by assumption)))); (first | done | fail))))
          (first | (go_at_call 30; (with_reducible refine (cmpM_any y m _ r HR.out).mono ?_); rintro e w1 ⟨rfl, hg⟩))
        all_goals
          go_wp2_with fail
          go_roundg (hi - ((lo + hi) / 2 + 1))
          case measure => omega
          case rel =>
            refine ⟨(lo + hi) / 2 + 1, hi, by go_num, rfl, by omega, hin, Nat.le_refl _, hide (HG.out.trans (by ((repeat (first | (with_reducible assumption) | (with_reducible exact Gr.refl _) | (with_reducible refine Gr.drew ?_) | (with_reducible refine Gr.alloc ?_ _) | (with_reducible refine Gr.trans ?_ (by assumption)))); (first | done | fail)))), hide ⟨fun t z ht hz => ?_, HI.out.2⟩⟩
            have h1 := HK.out
            rcases Nat.lt_or_ge t ((lo + hi) / 2) with h2 | h2
            · have h3 : z.key < y.key := by
                have h4 := (List.getElem?_eq_some_iff.1 hz)
                have h5 := (List.getElem?_eq_some_iff.1 HY.out)
                have h6 := List.pairwise_iff_getElem.1 HS.out t ((lo + hi) / 2) h4.1 h5.1 h2
                rwa [h4.2, h5.2] at h6
              omega
            · obtain rfl : t = (lo + hi) / 2 := by omega
              rw [HY.out] at hz
              injection hz with hz
              subst hz
              exact h1
      · have HK := hide (show m.key ≤ y.key from Int.not_lt.1 fun h => hneg (hcy.1.2 h))
        have d1 : decide (r < 0) = false := decide_eq_false hneg
        clear hcy hneg
        go_wp2_with fail
        go_region_held3 (fun w' => w'.cell? ⟨b, o + ((lo + hi) / 2) * 2, none⟩ = some (.int .i64 y.u) ∧ w'.cell? ⟨b, o + ((lo + hi) / 2) * 2 + 1, none⟩ = some (.int .i64 y.n) ∧ w'.cell? ⟨w.heap.size, 0, none⟩ = some (.int .i64 m.u) ∧ w'.cell? ⟨w.heap.size, 1, none⟩ = some (.int .i64 m.n))
          (exact KS.out _ (by ((repeat (first | (with_reducible assumption) | (with_reducible exact Gr.refl _) | (with_reducible refine Gr.drew ?_) | (with_reducible refine Gr.alloc ?_ _) | (with_reducible refine Gr.trans ?_ (by assumption)))); (first | done | fail))))
          (first | (go_at_call 30; (with_reducible refine (cmpM_any y m _ r HR.out).mono ?_); rintro e w1 ⟨rfl, hg⟩))
        all_goals
          go_wp2_with fail
          go_roundg ((lo + hi) / 2 - lo)
          case measure => omega
          case rel =>
            refine ⟨lo, (lo + hi) / 2, rfl, by go_num, by omega, by omega, Nat.le_refl _, hide (HG.out.trans (by ((repeat (first | (with_reducible assumption) | (with_reducible exact Gr.refl _) | (with_reducible refine Gr.drew ?_) | (with_reducible refine Gr.alloc ?_ _) | (with_reducible refine Gr.trans ?_ (by assumption)))); (first | done | fail)))), hide ⟨HI.out.1, fun t z ht hz => ?_⟩⟩
            have h1 := HK.out
            rcases Nat.lt_or_ge ((lo + hi) / 2) t with h2 | h2
            · have h3 : y.key < z.key := by
                have h4 := (List.getElem?_eq_some_iff.1 hz)
                have h5 := (List.getElem?_eq_some_iff.1 HY.out)
                have h6 := List.pairwise_iff_getElem.1 HS.out ((lo + hi) / 2) t h5.1 h4.1 h2
                rwa [h4.2, h5.2] at h6
              omega
            · obtain rfl : t = (lo + hi) / 2 := by omega
              rw [HY.out] at hz
              injection hz with hz
              subst hz
              exact h1
    · obtain rfl : hi = lo := by omega
      have HCN := hide (cnt_is (κ := Mk.key) (l := ys) (k := m.key) (i := hi) (by rw [HL.out]; exact hin) HI.out.1 HI.out.2)
      have d0 : decide ((hi : Int) < (hi : Int)) = false := decide_eq_false (by omega)
      by_cases hn2 : hi < n
      · obtain ⟨b, o, y, rfl, hl, hy, hc⟩ := (HR.out.keep (B.trans HG.out).below).atM hn2
        have HY := hide hy
        have KS : Hid (∀ w', Gr wr w' → w'.cell? ⟨b, o + hi * 2, none⟩ = some (.int .i64 y.u) ∧ w'.cell? ⟨b, o + hi * 2 + 1, none⟩ = some (.int .i64 y.n) ∧ w'.cell? ⟨w.heap.size, 0, none⟩ = some (.int .i64 m.u) ∧ w'.cell? ⟨w.heap.size, 1, none⟩ = some (.int .i64 m.n)) := fun w' g => by
          have ex : ∀ p : Addr, p.block < wr.heap.size → w'.cell? p = wr.cell? p := fun p hp => g.below.cell hp
          have bq := bx.below HG.out.below lx
          rw [ex ⟨b, o + hi * 2, none⟩ hl, ex ⟨b, o + hi * 2 + 1, none⟩ hl, ex ⟨w.heap.size, 0, none⟩ bq.lt, ex ⟨w.heap.size, 1, none⟩ bq.lt]
          exact ⟨hc.1, hc.2, bq.at_ 0, bq.at_ 1⟩
        obtain ⟨r, hr⟩ : ∃ r, cmpM y m = r := ⟨_, rfl⟩
        have HR := hide hr
        have a5 : (hi : Int) < (n : Int) := by omega
        have d2 : decide ((hi : Int) < (n : Int)) = true := decide_eq_true a5
        have a4 : (0 : Int) ≤ (hi : Int) := by omega
        have a6 : ((hi : Int)).toNat = hi := by omega
        have HF := hide (show fnd Mk.key m.key ys = (r == 0) by
          have hcy := HC.out y (List.mem_of_getElem? hy)
          rw [hr] at hcy
          unfold fnd
          rw [← HCN.out, hy, Bool.beq_eq_decide_eq]
          refine decide_eq_decide.2 ⟨?_, fun h => ⟨y, rfl, hcy.2.1 h⟩⟩
          rintro ⟨z, hz, e⟩
          injection hz with hz
          subst hz
          exact hcy.2.2 e)
        clear hc hy hr
        go_wp2_with fail
        go_region_held3 (fun w' => w'.cell? ⟨b, o + hi * 2, none⟩ = some (.int .i64 y.u) ∧ w'.cell? ⟨b, o + hi * 2 + 1, none⟩ = some (.int .i64 y.n) ∧ w'.cell? ⟨w.heap.size, 0, none⟩ = some (.int .i64 m.u) ∧ w'.cell? ⟨w.heap.size, 1, none⟩ = some (.int .i64 m.n))
          (exact KS.out _ (by ((repeat (first | (with_reducible assumption) | (with_reducible exact Gr.refl _) | (with_reducible refine Gr.drew ?_) | (with_reducible refine Gr.alloc ?_ _) | (with_reducible refine Gr.trans ?_ (by assumption)))); (first | done | fail))))
          (first | (go_at_call 30; (with_reducible refine (cmpM_any y m _ r HR.out).mono ?_); rintro e w1 ⟨rfl, hg⟩))
        all_goals
          go_wp2_with fail
          go_ret2
          exact ⟨by rw [← HCN.out, HF.out]; rfl, B.trans (HG.out.trans (by ((repeat (first | (with_reducible assumption) | (with_reducible exact Gr.refl _) | (with_reducible refine Gr.drew ?_) | (with_reducible refine Gr.alloc ?_ _) | (with_reducible refine Gr.trans ?_ (by assumption)))); (first | done | fail))))⟩
      · obtain rfl : hi = n := by omega
        have d2 : decide ((hi : Int) < (hi : Int)) = false := decide_eq_false (by omega)
        have HF := hide (show fnd Mk.key m.key ys = false by
          unfold fnd
          rw [← HCN.out]
          refine decide_eq_false ?_
          rintro ⟨z, hz, e⟩
          have := (List.getElem?_eq_some_iff.1 hz).1
          have := HL.out
          omega)
        go_wp2_with fail
        go_region
        all_goals
          go_wp2_with fail
          go_ret2
          exact ⟨by rw [← HCN.out, HF.out]; rfl, B.trans (HG.out.trans (by ((repeat (first | (with_reducible assumption) | (with_reducible exact Gr.refl _) | (with_reducible refine Gr.drew ?_) | (with_reducible refine Gr.alloc ?_ _) | (with_reducible refine Gr.trans ?_ (by assumption)))); (first | done | fail))))⟩

set_option maxHeartbeats 8000000 in
theorem bsD_any (A : Option Addr) (n c : Nat) (ys : List Dec) (m : Mk) (w : World) (hr : SL eD w A n ys) (hs : Srt Dec.key ys) (hv : ∀ x ∈ ys, vD x = true) (hm : vM m = true) (hn : n ≤ 1000) :
    Calls Tryz.prog 63 #[.slice A n c, .agg #[.int .i64 m.u, .int .i64 m.n], .func (.func 64) #[] #[]] w fun e w' => e = .returned (.tuple #[.int .i64 (cnt Dec.key m.key ys : Nat), .bool (fnd Dec.key m.key ys)]) ∧ Gr w w' := by
  have HR := hide hr
  have HL := hide hr.1
  have HC := hide (show ∀ y ∈ ys, (cmpM y.mk_ m < 0 ↔ y.key < m.key) ∧ (cmpM y.mk_ m = 0 ↔ y.key = m.key) from fun y hy => or2_lt (by have h := hv y hy; exact (vD_vM h)) hm)
  have HS := hide hs
  clear hr hv hm hs
  go_enter Tryz.func63, Tryz.ntmps63
  go_wp2_with fail
  generalize hW : w.alloc _ = W
  obtain ⟨B, bx⟩ : Gr w W ∧ Box W w.heap.size #[.int .i64 m.u, .int .i64 m.n] 46 := by
    subst hW
    exact ⟨(by ((repeat (first | (with_reducible assumption) | (with_reducible exact Gr.refl _) | (with_reducible refine Gr.drew ?_) | (with_reducible refine Gr.alloc ?_ _) | (with_reducible refine Gr.trans ?_ (by assumption)))); (first | done | fail))), Box.new _ _ _⟩
  clear hW
  have lx := bx.lt
  go_loopg [9, 10] n (fun kx s9 s10 wr => ∃ lo hi : Nat, s9 = .int .i64 (lo : Int) ∧ s10 = .int .i64 (hi : Int) ∧ lo ≤ hi ∧ hi ≤ n ∧ hi - lo ≤ kx ∧ Hid (Gr W wr) ∧ Hid ((∀ t y, t < lo → ys[t]? = some y → y.key < m.key) ∧ (∀ t y, hi ≤ t → ys[t]? = some y → m.key ≤ y.key)))
  case atStart => exact ⟨0, n, rfl, rfl, Nat.zero_le _, Nat.le_refl _, by omega, hide (Gr.refl _), hide ⟨fun t y h => absurd h (Nat.not_lt_zero _), fun t y h hy => by have := (List.getElem?_eq_some_iff.1 hy).1; have := HL.out; omega⟩⟩
  case round =>
    obtain ⟨lo, hi, rfl, rfl, hlh, hin, hg, HG, HI⟩ := hrel
    by_cases hlt : lo < hi
    · obtain ⟨b, o, y, rfl, hl, hy, hc⟩ := (HR.out.keep (B.trans HG.out).below).atD (show (lo + hi) / 2 < n by omega)
      have HY := hide hy
      have KS : Hid (∀ w', Gr wr w' → w'.cell? ⟨b, o + ((lo + hi) / 2) * 5, none⟩ = some (.int .i64 y.u) ∧ w'.cell? ⟨b, o + ((lo + hi) / 2) * 5 + 1, none⟩ = some (.int .i64 y.n) ∧ w'.cell? ⟨b, o + ((lo + hi) / 2) * 5 + 2, none⟩ = some (.int .i64 y.k) ∧ w'.cell? ⟨b, o + ((lo + hi) / 2) * 5 + 3, none⟩ = some (.int .i64 y.a) ∧ w'.cell? ⟨b, o + ((lo + hi) / 2) * 5 + 4, none⟩ = some (.int .i64 y.b) ∧ w'.cell? ⟨w.heap.size, 0, none⟩ = some (.int .i64 m.u) ∧ w'.cell? ⟨w.heap.size, 1, none⟩ = some (.int .i64 m.n)) := fun w' g => by
        have ex : ∀ p : Addr, p.block < wr.heap.size → w'.cell? p = wr.cell? p := fun p hp => g.below.cell hp
        have bq := bx.below HG.out.below lx
        rw [ex ⟨b, o + ((lo + hi) / 2) * 5, none⟩ hl, ex ⟨b, o + ((lo + hi) / 2) * 5 + 1, none⟩ hl, ex ⟨b, o + ((lo + hi) / 2) * 5 + 2, none⟩ hl, ex ⟨b, o + ((lo + hi) / 2) * 5 + 3, none⟩ hl, ex ⟨b, o + ((lo + hi) / 2) * 5 + 4, none⟩ hl, ex ⟨w.heap.size, 0, none⟩ bq.lt, ex ⟨w.heap.size, 1, none⟩ bq.lt]
        exact ⟨hc.1, hc.2.1, hc.2.2.1, hc.2.2.2.1, hc.2.2.2.2, bq.at_ 0, bq.at_ 1⟩
      obtain ⟨r, hr⟩ : ∃ r, cmpM y.mk_ m = r := ⟨_, rfl⟩
      have HR := hide hr
      have a4 : (0 : Int) ≤ ((lo : Int) + (hi : Int)) / 2 := by omega
      have a5 : ((lo : Int) + (hi : Int)) / 2 < (n : Int) := by omega
      have a6 : (((lo : Int) + (hi : Int)) / 2).toNat = (lo + hi) / 2 := by omega
      have d0 : decide ((lo : Int) < (hi : Int)) = true := decide_eq_true (by omega)
      have hcy := HC.out y (List.mem_of_getElem? hy)
      rw [hr] at hcy
      clear hc hy hr
      by_cases hneg : r < 0
      · have HK := hide (hcy.1.1 hneg)
        have d1 : decide (r < 0) = true := decide_eq_true hneg
        clear hcy hneg
        go_wp2_with fail
        go_region_held3 (fun w' => w'.cell? ⟨b, o + ((lo + hi) / 2) * 5, none⟩ = some (.int .i64 y.u) ∧ w'.cell? ⟨b, o + ((lo + hi) / 2) * 5 + 1, none⟩ = some (.int .i64 y.n) ∧ w'.cell? ⟨b, o + ((lo + hi) / 2) * 5 + 2, none⟩ = some (.int .i64 y.k) ∧ w'.cell? ⟨b, o + ((lo + hi) / 2) * 5 + 3, none⟩ = some (.int .i64 y.a) ∧ w'.cell? ⟨b, o + ((lo + hi) / 2) * 5 + 4, none⟩ = some (.int .i64 y.b) ∧ w'.cell? ⟨w.heap.size, 0, none⟩ = some (.int .i64 m.u) ∧ w'.cell? ⟨w.heap.size, 1, none⟩ = some (.int .i64 m.n))
          (exact KS.out _ (by ((repeat (first | (with_reducible assumption) | (with_reducible exact Gr.refl _) | (with_reducible refine Gr.drew ?_) | (with_reducible refine Gr.alloc ?_ _) | (with_reducible refine Gr.trans ?_ (by assumption)))); (first | done | fail))))
          (first | (go_at_call 64; (with_reducible refine (cl_any y m _ r HR.out).mono ?_); rintro e w1 ⟨rfl, hg⟩))
        all_goals
          go_wp2_with fail
          go_roundg (hi - ((lo + hi) / 2 + 1))
          case measure => omega
          case rel =>
            refine ⟨(lo + hi) / 2 + 1, hi, by go_num, rfl, by omega, hin, Nat.le_refl _, hide (HG.out.trans (by ((repeat (first | (with_reducible assumption) | (with_reducible exact Gr.refl _) | (with_reducible refine Gr.drew ?_) | (with_reducible refine Gr.alloc ?_ _) | (with_reducible refine Gr.trans ?_ (by assumption)))); (first | done | fail)))), hide ⟨fun t z ht hz => ?_, HI.out.2⟩⟩
            have h1 := HK.out
            rcases Nat.lt_or_ge t ((lo + hi) / 2) with h2 | h2
            · have h3 : z.key < y.key := by
                have h4 := (List.getElem?_eq_some_iff.1 hz)
                have h5 := (List.getElem?_eq_some_iff.1 HY.out)
                have h6 := List.pairwise_iff_getElem.1 HS.out t ((lo + hi) / 2) h4.1 h5.1 h2
                rwa [h4.2, h5.2] at h6
              omega
            · obtain rfl : t = (lo + hi) / 2 := by omega
              rw [HY.out] at hz
              injection hz with hz
              subst hz
              exact h1
      · have HK := hide (show m.key ≤ y.key from Int.not_lt.1 fun h => hneg (hcy.1.2 h))
        have d1 : decide (r < 0) = false := decide_eq_false hneg
        clear hcy hneg
        go_wp2_with fail
        go_region_held3 (fun w' => w'.cell? ⟨b, o + ((lo + hi) / 2) * 5, none⟩ = some (.int .i64 y.u) ∧ w'.cell? ⟨b, o + ((lo + hi) / 2) * 5 + 1, none⟩ = some (.int .i64 y.n) ∧ w'.cell? ⟨b, o + ((lo + hi) / 2) * 5 + 2, none⟩ = some (.int .i64 y.k) ∧ w'.cell? ⟨b, o + ((lo + hi) / 2) * 5 + 3, none⟩ = some (.int .i64 y.a) ∧ w'.cell? ⟨b, o + ((lo + hi) / 2) * 5 + 4, none⟩ = some (.int .i64 y.b) ∧ w'.cell? ⟨w.heap.size, 0, none⟩ = some (.int .i64 m.u) ∧ w'.cell? ⟨w.heap.size, 1, none⟩ = some (.int .i64 m.n))
          (exact KS.out _ (by ((repeat (first | (with_reducible assumption) | (with_reducible exact Gr.refl _) | (with_reducible refine Gr.drew ?_) | (with_reducible refine Gr.alloc ?_ _) | (with_reducible refine Gr.trans ?_ (by assumption)))); (first | done | fail))))
          (first | (go_at_call 64; (with_reducible refine (cl_any y m _ r HR.out).mono ?_); rintro e w1 ⟨rfl, hg⟩))
        all_goals
          go_wp2_with fail
          go_roundg ((lo + hi) / 2 - lo)
          case measure => omega
          case rel =>
            refine ⟨lo, (lo + hi) / 2, rfl, by go_num, by omega, by omega, Nat.le_refl _, hide (HG.out.trans (by ((repeat (first | (with_reducible assumption) | (with_reducible exact Gr.refl _) | (with_reducible refine Gr.drew ?_) | (with_reducible refine Gr.alloc ?_ _) | (with_reducible refine Gr.trans ?_ (by assumption)))); (first | done | fail)))), hide ⟨HI.out.1, fun t z ht hz => ?_⟩⟩
            have h1 := HK.out
            rcases Nat.lt_or_ge ((lo + hi) / 2) t with h2 | h2
            · have h3 : y.key < z.key := by
                have h4 := (List.getElem?_eq_some_iff.1 hz)
                have h5 := (List.getElem?_eq_some_iff.1 HY.out)
                have h6 := List.pairwise_iff_getElem.1 HS.out ((lo + hi) / 2) t h5.1 h4.1 h2
                rwa [h4.2, h5.2] at h6
              omega
            · obtain rfl : t = (lo + hi) / 2 := by omega
              rw [HY.out] at hz
              injection hz with hz
              subst hz
              exact h1
    · obtain rfl : hi = lo := by omega
      have HCN := hide (cnt_is (κ := Dec.key) (l := ys) (k := m.key) (i := hi) (by rw [HL.out]; exact hin) HI.out.1 HI.out.2)
      have d0 : decide ((hi : Int) < (hi : Int)) = false := decide_eq_false (by omega)
      by_cases hn2 : hi < n
      · obtain ⟨b, o, y, rfl, hl, hy, hc⟩ := (HR.out.keep (B.trans HG.out).below).atD hn2
        have HY := hide hy
        have KS : Hid (∀ w', Gr wr w' → w'.cell? ⟨b, o + hi * 5, none⟩ = some (.int .i64 y.u) ∧ w'.cell? ⟨b, o + hi * 5 + 1, none⟩ = some (.int .i64 y.n) ∧ w'.cell? ⟨b, o + hi * 5 + 2, none⟩ = some (.int .i64 y.k) ∧ w'.cell? ⟨b, o + hi * 5 + 3, none⟩ = some (.int .i64 y.a) ∧ w'.cell? ⟨b, o + hi * 5 + 4, none⟩ = some (.int .i64 y.b) ∧ w'.cell? ⟨w.heap.size, 0, none⟩ = some (.int .i64 m.u) ∧ w'.cell? ⟨w.heap.size, 1, none⟩ = some (.int .i64 m.n)) := fun w' g => by
          have ex : ∀ p : Addr, p.block < wr.heap.size → w'.cell? p = wr.cell? p := fun p hp => g.below.cell hp
          have bq := bx.below HG.out.below lx
          rw [ex ⟨b, o + hi * 5, none⟩ hl, ex ⟨b, o + hi * 5 + 1, none⟩ hl, ex ⟨b, o + hi * 5 + 2, none⟩ hl, ex ⟨b, o + hi * 5 + 3, none⟩ hl, ex ⟨b, o + hi * 5 + 4, none⟩ hl, ex ⟨w.heap.size, 0, none⟩ bq.lt, ex ⟨w.heap.size, 1, none⟩ bq.lt]
          exact ⟨hc.1, hc.2.1, hc.2.2.1, hc.2.2.2.1, hc.2.2.2.2, bq.at_ 0, bq.at_ 1⟩
        obtain ⟨r, hr⟩ : ∃ r, cmpM y.mk_ m = r := ⟨_, rfl⟩
        have HR := hide hr
        have a5 : (hi : Int) < (n : Int) := by omega
        have d2 : decide ((hi : Int) < (n : Int)) = true := decide_eq_true a5
        have a4 : (0 : Int) ≤ (hi : Int) := by omega
        have a6 : ((hi : Int)).toNat = hi := by omega
        have HF := hide (show fnd Dec.key m.key ys = (r == 0) by
          have hcy := HC.out y (List.mem_of_getElem? hy)
          rw [hr] at hcy
          unfold fnd
          rw [← HCN.out, hy, Bool.beq_eq_decide_eq]
          refine decide_eq_decide.2 ⟨?_, fun h => ⟨y, rfl, hcy.2.1 h⟩⟩
          rintro ⟨z, hz, e⟩
          injection hz with hz
          subst hz
          exact hcy.2.2 e)
        clear hc hy hr
        go_wp2_with fail
        go_region_held3 (fun w' => w'.cell? ⟨b, o + hi * 5, none⟩ = some (.int .i64 y.u) ∧ w'.cell? ⟨b, o + hi * 5 + 1, none⟩ = some (.int .i64 y.n) ∧ w'.cell? ⟨b, o + hi * 5 + 2, none⟩ = some (.int .i64 y.k) ∧ w'.cell? ⟨b, o + hi * 5 + 3, none⟩ = some (.int .i64 y.a) ∧ w'.cell? ⟨b, o + hi * 5 + 4, none⟩ = some (.int .i64 y.b) ∧ w'.cell? ⟨w.heap.size, 0, none⟩ = some (.int .i64 m.u) ∧ w'.cell? ⟨w.heap.size, 1, none⟩ = some (.int .i64 m.n))
          (exact KS.out _ (by ((repeat (first | (with_reducible assumption) | (with_reducible exact Gr.refl _) | (with_reducible refine Gr.drew ?_) | (with_reducible refine Gr.alloc ?_ _) | (with_reducible refine Gr.trans ?_ (by assumption)))); (first | done | fail))))
          (first | (go_at_call 64; (with_reducible refine (cl_any y m _ r HR.out).mono ?_); rintro e w1 ⟨rfl, hg⟩))
        all_goals
          go_wp2_with fail
          go_ret2
          exact ⟨by rw [← HCN.out, HF.out]; rfl, B.trans (HG.out.trans (by ((repeat (first | (with_reducible assumption) | (with_reducible exact Gr.refl _) | (with_reducible refine Gr.drew ?_) | (with_reducible refine Gr.alloc ?_ _) | (with_reducible refine Gr.trans ?_ (by assumption)))); (first | done | fail))))⟩
      · obtain rfl : hi = n := by omega
        have d2 : decide ((hi : Int) < (hi : Int)) = false := decide_eq_false (by omega)
        have HF := hide (show fnd Dec.key m.key ys = false by
          unfold fnd
          rw [← HCN.out]
          refine decide_eq_false ?_
          rintro ⟨z, hz, e⟩
          have := (List.getElem?_eq_some_iff.1 hz).1
          have := HL.out
          omega)
        go_wp2_with fail
        go_region
        all_goals
          go_wp2_with fail
          go_ret2
          exact ⟨by rw [← HCN.out, HF.out]; rfl, B.trans (HG.out.trans (by ((repeat (first | (with_reducible assumption) | (with_reducible exact Gr.refl _) | (with_reducible refine Gr.drew ?_) | (with_reducible refine Gr.alloc ?_ _) | (with_reducible refine Gr.trans ?_ (by assumption)))); (first | done | fail))))⟩
end Go.Proofs.YtalbdclcappjpaaGreat
