/- Finding a key: place and sideOf of the program, at and find of the reference. -/
import Derived.Test.YtadmiecoahohiaaUD
namespace Go.Proofs.Ytadmiecoahohiaa
open Go Go.RowKit Go.Lib
theorem find_at {α : Type} {κ : α → Int} {ys : List α} {j : Nat} {y : α} {k : Int} (h : ys[j]? = some y) (hk : κ y = k) (hn : ∀ e ∈ ys.take j, κ e ≠ k) : ys.find? (fun e => κ e == k) = some y := by
  have e1 : ys = ys.take j ++ y :: ys.drop (j + 1) := by
    have h1 := List.getElem?_eq_some_iff.1 h
    rw [← h1.2, ← List.drop_eq_getElem_cons h1.1, List.take_append_drop]
  rw [e1, List.find?_append, find_none.2 hn, Option.none_or, List.find?_cons, hk]
  simp
theorem fnd_yes {α : Type} {κ : α → Int} {ys : List α} {k : Int} (hs : Srt κ ys) (h : fnd κ k ys = true) : ∃ y, ys[cnt κ k ys]? = some y ∧ κ y = k ∧ ys.find? (fun e => κ e == k) = some y := by
  unfold fnd at h
  obtain ⟨y, h1, h2⟩ := of_decide_eq_true h
  exact ⟨y, h1, h2, (find_iff hs).2 ⟨List.mem_of_getElem? h1, h2⟩⟩
theorem fnd_no {α : Type} {κ : α → Int} {ys : List α} {k : Int} (hs : Srt κ ys) (h : fnd κ k ys = false) : ys.find? (fun e => κ e == k) = none := by
  refine find_none.2 fun e he hk => ?_
  have h1 := (hs.found k).1 ⟨e, he, hk⟩
  unfold fnd at h
  exact of_decide_eq_false h h1
theorem fnd_hit {α : Type} {κ : α → Int} {ys : List α} {k : Int} (hs : Srt κ ys) : fnd κ k ys = (ys.find? (fun e => κ e == k)).isSome := by
  cases h : fnd κ k ys with
  | true => obtain ⟨y, _, _, h3⟩ := fnd_yes hs h; rw [h3]; rfl
  | false => rw [fnd_no hs h]; rfl
theorem Gr.set {w W : World} (h : Gr w W) {g : Nat} (i : Nat) (v : Value) (hg : w.heap.size ≤ g) : Gr w (W.setCell ⟨g, i, none⟩ v) := by
  obtain ⟨q, os, rfl⟩ := h
  have hb := (Gr.below ⟨q, os, rfl⟩ : Below w.heap.size w (Go.Sort.grow (w.drewN q) os)).setCell (p := ⟨g, i, none⟩) hg v
  obtain ⟨W', hW'⟩ : ∃ W', W' = (Go.Sort.grow (w.drewN q) os).setCell ⟨g, i, none⟩ v := ⟨_, rfl⟩
  rw [← hW'] at hb ⊢
  refine ⟨q, W'.heap.extract w.heap.size W'.heap.size, ?_⟩
  have e1 : W'.heap = w.heap ++ W'.heap.extract w.heap.size W'.heap.size := by
    apply Array.ext_getElem?
    intro k
    rcases Nat.lt_or_ge k w.heap.size with hk | hk
    · rw [Array.getElem?_append_left hk]
      exact hb.block k hk
    · rw [Array.getElem?_append_right hk]
      by_cases hk2 : k < W'.heap.size
      · rw [Array.getElem?_eq_getElem hk2, Array.getElem?_eq_getElem (by simp; omega)]
        simp only [Array.getElem_extract]
        congr 2
        omega
      · rw [Array.getElem?_eq_none (by omega), Array.getElem?_eq_none (by simp; omega)]
  have e2 : W' = { (Go.Sort.grow (w.drewN q) os) with heap := W'.heap } := by rw [hW']; rfl
  rw [e2]
  unfold Go.Sort.grow
  show _ = ({ (w.drewN q) with heap := w.heap ++ _ } : World)
  rw [← e1]
theorem cI_lt {a b r : Int} (h : cI a b = r) : (r < 0 ↔ a < b) ∧ (r = 0 ↔ a = b) := by
  unfold cI at h
  split at h
  · subst h; omega
  · split at h
    · subst h; omega
    · subst h; omega

set_option maxHeartbeats 2000000 in
theorem clE_any (x : Ent) (k : Int) (g : Nat) (t : TypeId) (w : World) (hb : Box w g #[.func (.func 39) #[] #[]] t) (r : Int) (hr : cI x.k k = r) :
    Calls Try.prog 71 #[.agg #[.int .i64 x.k, .int .i64 x.v], .int .i64 k, .pointer (some ⟨g, 0, none⟩)] w fun e w' => e = .returned (.int .i64 r) ∧ Gr w w' := by
  have HR := hide hr
  have c0 : (w.alloc (.cells #[.int .i64 x.k, .int .i64 x.v] 43)).cell? ⟨g, 0, none⟩ = some (.func (.func 39) #[] #[]) := (hb.alloc _).at_ 0
  clear hr hb
  go_enter Try.func71, Try.ntmps71
  go_wp2_with fail
  refine (keyE_any x _).mono ?_
  rintro e w1 ⟨rfl, g1⟩
  have G1 := hide (((Gr.refl w).alloc (.cells #[.int .i64 x.k, .int .i64 x.v] 43)).trans g1)
  clear g1 c0
  go_wp2_with fail
  refine (cmp_any x.k k _ r HR.out).mono ?_
  rintro e w2 ⟨rfl, rfl⟩
  go_wp2_with fail
  go_ret
  exact ⟨rfl, G1.out⟩
set_option maxHeartbeats 8000000 in
theorem bsE_any (A : Option Addr) (n c : Nat) (ys : List Ent) (k : Int) (g : Nat) (t : TypeId) (w : World) (hr : SL eE w A n ys) (hs : Srt Ent.k ys) (hb : Box w g #[.func (.func 39) #[] #[]] t) (hn : n ≤ 1000) :
    Calls Try.prog 70 #[.slice A n c, .int .i64 k, .func (.func 71) #[] #[.pointer (some ⟨g, 0, none⟩)]] w fun e w' => e = .returned (.tuple #[.int .i64 (cnt Ent.k k ys : Nat), .bool (fnd Ent.k k ys)]) ∧ Gr w w' := by
  have HR := hide hr
  have HL := hide hr.1
  have HS := hide hs
  have HB := hide hb
  clear hr hs hb
  go_enter Try.func70, Try.ntmps70
  go_wp2_with fail
  go_loopg [9, 10] n (fun kx s9 s10 wr => ∃ lo hi : Nat, s9 = .int .i64 (lo : Int) ∧ s10 = .int .i64 (hi : Int) ∧ lo ≤ hi ∧ hi ≤ n ∧ hi - lo ≤ kx ∧ Hid (Gr w wr) ∧ Hid ((∀ t y, t < lo → ys[t]? = some y → y.k < k) ∧ (∀ t y, hi ≤ t → ys[t]? = some y → k ≤ y.k)))
  case atStart => exact ⟨0, n, rfl, rfl, Nat.zero_le _, Nat.le_refl _, by omega, hide (Gr.refl _), hide ⟨fun t y h => absurd h (Nat.not_lt_zero _), fun t y h hy => by have := (List.getElem?_eq_some_iff.1 hy).1; have := HL.out; omega⟩⟩
  case round =>
    obtain ⟨lo, hi, rfl, rfl, hlh, hin, hg, HG, HI⟩ := hrel
    by_cases hlt : lo < hi
    · obtain ⟨b, o, y, rfl, hl, hy, hc⟩ := (HR.out.keep HG.out.below).atE (show (lo + hi) / 2 < n by omega)
      obtain ⟨m0, m1⟩ := hc
      have HY := hide hy
      obtain ⟨r, hr⟩ : ∃ r, cI y.k k = r := ⟨_, rfl⟩
      have HC := hide (cI_lt hr)
      have a4 : (0 : Int) ≤ ((lo : Int) + (hi : Int)) / 2 := by omega
      have a5 : ((lo : Int) + (hi : Int)) / 2 < (n : Int) := by omega
      have a6 : (((lo : Int) + (hi : Int)) / 2).toNat = (lo + hi) / 2 := by omega
      have d0 : decide ((lo : Int) < (hi : Int)) = true := decide_eq_true (by omega)
      have HCL := hide (clE_any y k g t wr (HB.out.below HG.out.below HB.out.lt) r hr)
      clear hy hr
      go_wp2_with fail
      refine HCL.out.mono ?_
      rintro e w1 ⟨rfl, g1⟩
      have G1 := hide (HG.out.trans g1)
      clear g1 m0 m1
      by_cases hneg : r < 0
      · have HK := hide (HC.out.1.1 hneg)
        have d1 : decide (r < 0) = true := decide_eq_true hneg
        clear hneg
        go_wp2_with fail
        go_roundg (hi - ((lo + hi) / 2 + 1))
        case measure => omega
        case rel =>
          refine ⟨(lo + hi) / 2 + 1, hi, by go_num, rfl, by omega, hin, Nat.le_refl _, G1, hide ⟨fun t z ht hz => ?_, HI.out.2⟩⟩
          have h1 := HK.out
          rcases Nat.lt_or_ge t ((lo + hi) / 2) with h2 | h2
          · have h3 : z.k < y.k := by
              have h4 := (List.getElem?_eq_some_iff.1 hz)
              have h5 := (List.getElem?_eq_some_iff.1 HY.out)
              have h6 := List.pairwise_iff_getElem.1 HS.out t ((lo + hi) / 2) h4.1 h5.1 h2
              rwa [h4.2, h5.2] at h6
            omega
          · obtain rfl : t = (lo + hi) / 2 := by omega
            rw [HY.out] at hz
            injection hz with hz
            subst hz
            exact h1
      · have HK := hide (show k ≤ y.k from Int.not_lt.1 fun h => hneg (HC.out.1.2 h))
        have d1 : decide (r < 0) = false := decide_eq_false hneg
        clear hneg
        go_wp2_with fail
        go_roundg ((lo + hi) / 2 - lo)
        case measure => omega
        case rel =>
          refine ⟨lo, (lo + hi) / 2, rfl, by go_num, by omega, by omega, Nat.le_refl _, G1, hide ⟨HI.out.1, fun t z ht hz => ?_⟩⟩
          have h1 := HK.out
          rcases Nat.lt_or_ge ((lo + hi) / 2) t with h2 | h2
          · have h3 : y.k < z.k := by
              have h4 := (List.getElem?_eq_some_iff.1 hz)
              have h5 := (List.getElem?_eq_some_iff.1 HY.out)
              have h6 := List.pairwise_iff_getElem.1 HS.out ((lo + hi) / 2) t h5.1 h4.1 h2
              rwa [h4.2, h5.2] at h6
            omega
          · obtain rfl : t = (lo + hi) / 2 := by omega
            rw [HY.out] at hz
            injection hz with hz
            subst hz
            exact h1
    · obtain rfl : hi = lo := by omega
      have HCN := hide (cnt_is (κ := Ent.k) (l := ys) (k := k) (i := hi) (by rw [HL.out]; exact hin) HI.out.1 HI.out.2)
      have d0 : decide ((hi : Int) < (hi : Int)) = false := decide_eq_false (by omega)
      by_cases hn2 : hi < n
      · obtain ⟨b, o, y, rfl, hl, hy, hc⟩ := (HR.out.keep HG.out.below).atE hn2
        obtain ⟨m0, m1⟩ := hc
        have HY := hide hy
        obtain ⟨r, hr⟩ : ∃ r, cI y.k k = r := ⟨_, rfl⟩
        have hcy := cI_lt hr
        have a5 : (hi : Int) < (n : Int) := by omega
        have d2 : decide ((hi : Int) < (n : Int)) = true := decide_eq_true a5
        have a4 : (0 : Int) ≤ (hi : Int) := by omega
        have a6 : ((hi : Int)).toNat = hi := by omega
        have HF := hide (show fnd Ent.k k ys = (r == 0) by
          unfold fnd
          rw [← HCN.out, hy, Bool.beq_eq_decide_eq]
          refine decide_eq_decide.2 ⟨?_, fun h => ⟨y, rfl, hcy.2.1 h⟩⟩
          rintro ⟨z, hz, e⟩
          injection hz with hz
          subst hz
          exact hcy.2.2 e)
        have HCL := hide (clE_any y k g t wr (HB.out.below HG.out.below HB.out.lt) r hr)
        clear hy hr hcy
        go_wp2_with fail
        refine HCL.out.mono ?_
        rintro e w1 ⟨rfl, g1⟩
        have G1 := hide (HG.out.trans g1)
        clear g1 m0 m1
        go_wp2_with fail
        go_ret2
        exact ⟨by rw [← HCN.out, HF.out]; rfl, G1.out⟩
      · obtain rfl : hi = n := by omega
        have d2 : decide ((hi : Int) < (hi : Int)) = false := decide_eq_false (by omega)
        have HF := hide (show fnd Ent.k k ys = false by
          unfold fnd
          rw [← HCN.out]
          refine decide_eq_false ?_
          rintro ⟨z, hz, e⟩
          have := (List.getElem?_eq_some_iff.1 hz).1
          have := HL.out
          omega)
        go_wp2_with fail
        go_ret2
        exact ⟨by rw [← HCN.out, HF.out]; rfl, HG.out⟩
set_option maxHeartbeats 2000000 in
theorem placeE_any (A : Option Addr) (n c : Nat) (ys : List Ent) (k : Int) (w : World) (hr : SL eE w A n ys) (hs : Srt Ent.k ys) (hn : n ≤ 1000) :
    Calls Try.prog 60 #[.slice A n c, .int .i64 k, .func (.func 39) #[] #[]] w fun e w' => e = .returned (.tuple #[.int .i64 (cnt Ent.k k ys : Nat), .bool (fnd Ent.k k ys)]) ∧ Gr w w' := by
  have H := hide (fun (t : TypeId) => bsE_any A n c ys k w.heap.size t (w.alloc (.cells #[.func (.func 39) #[] #[]] t)) (hr.keep ((Below.refl _ _).alloc (Nat.le_refl _) _)) hs (newE _ _ _ rfl) hn)
  clear hr hs
  go_enter Try.func60, Try.ntmps60
  go_wp2_with fail
  refine (H.out _).mono ?_
  rintro e w1 ⟨rfl, g1⟩
  have G1 := hide (((Gr.refl w).alloc _).trans g1)
  clear g1
  go_wp2_with fail
  go_ret2
  exact ⟨rfl, G1.out⟩

set_option maxHeartbeats 2000000 in
theorem clC_any (x : Chg) (k : Int) (g : Nat) (t : TypeId) (w : World) (hb : Box w g #[.func (.func 42) #[] #[]] t) (r : Int) (hr : cI x.k k = r) :
    Calls Try.prog 62 #[.agg #[.int .i64 x.k, .int .i64 x.o, .int .i64 x.n, .bool x.h, .bool x.s], .int .i64 k, .pointer (some ⟨g, 0, none⟩)] w fun e w' => e = .returned (.int .i64 r) ∧ Gr w w' := by
  have HR := hide hr
  have c0 : (w.alloc (.cells #[.int .i64 x.k, .int .i64 x.o, .int .i64 x.n, .bool x.h, .bool x.s] 46)).cell? ⟨g, 0, none⟩ = some (.func (.func 42) #[] #[]) := (hb.alloc _).at_ 0
  clear hr hb
  go_enter Try.func62, Try.ntmps62
  go_wp2_with fail
  refine (keyC_any x _).mono ?_
  rintro e w1 ⟨rfl, g1⟩
  have G1 := hide (((Gr.refl w).alloc (.cells #[.int .i64 x.k, .int .i64 x.o, .int .i64 x.n, .bool x.h, .bool x.s] 46)).trans g1)
  clear g1 c0
  go_wp2_with fail
  refine (cmp_any x.k k _ r HR.out).mono ?_
  rintro e w2 ⟨rfl, rfl⟩
  go_wp2_with fail
  go_ret
  exact ⟨rfl, G1.out⟩
set_option maxHeartbeats 8000000 in
theorem bsC_any (A : Option Addr) (n c : Nat) (ys : List Chg) (k : Int) (g : Nat) (t : TypeId) (w : World) (hr : SL eC w A n ys) (hs : Srt Chg.k ys) (hb : Box w g #[.func (.func 42) #[] #[]] t) (hn : n ≤ 1000) :
    Calls Try.prog 61 #[.slice A n c, .int .i64 k, .func (.func 62) #[] #[.pointer (some ⟨g, 0, none⟩)]] w fun e w' => e = .returned (.tuple #[.int .i64 (cnt Chg.k k ys : Nat), .bool (fnd Chg.k k ys)]) ∧ Gr w w' := by
  have HR := hide hr
  have HL := hide hr.1
  have HS := hide hs
  have HB := hide hb
  clear hr hs hb
  go_enter Try.func61, Try.ntmps61
  go_wp2_with fail
  go_loopg [9, 10] n (fun kx s9 s10 wr => ∃ lo hi : Nat, s9 = .int .i64 (lo : Int) ∧ s10 = .int .i64 (hi : Int) ∧ lo ≤ hi ∧ hi ≤ n ∧ hi - lo ≤ kx ∧ Hid (Gr w wr) ∧ Hid ((∀ t y, t < lo → ys[t]? = some y → y.k < k) ∧ (∀ t y, hi ≤ t → ys[t]? = some y → k ≤ y.k)))
  case atStart => exact ⟨0, n, rfl, rfl, Nat.zero_le _, Nat.le_refl _, by omega, hide (Gr.refl _), hide ⟨fun t y h => absurd h (Nat.not_lt_zero _), fun t y h hy => by have := (List.getElem?_eq_some_iff.1 hy).1; have := HL.out; omega⟩⟩
  case round =>
    obtain ⟨lo, hi, rfl, rfl, hlh, hin, hg, HG, HI⟩ := hrel
    by_cases hlt : lo < hi
    · obtain ⟨b, o, y, rfl, hl, hy, hc⟩ := (HR.out.keep HG.out.below).atC (show (lo + hi) / 2 < n by omega)
      obtain ⟨m0, m1, m2, m3, m4⟩ := hc
      have HY := hide hy
      obtain ⟨r, hr⟩ : ∃ r, cI y.k k = r := ⟨_, rfl⟩
      have HC := hide (cI_lt hr)
      have a4 : (0 : Int) ≤ ((lo : Int) + (hi : Int)) / 2 := by omega
      have a5 : ((lo : Int) + (hi : Int)) / 2 < (n : Int) := by omega
      have a6 : (((lo : Int) + (hi : Int)) / 2).toNat = (lo + hi) / 2 := by omega
      have d0 : decide ((lo : Int) < (hi : Int)) = true := decide_eq_true (by omega)
      have HCL := hide (clC_any y k g t wr (HB.out.below HG.out.below HB.out.lt) r hr)
      clear hy hr
      go_wp2_with fail
      refine HCL.out.mono ?_
      rintro e w1 ⟨rfl, g1⟩
      have G1 := hide (HG.out.trans g1)
      clear g1 m0 m1 m2 m3 m4
      by_cases hneg : r < 0
      · have HK := hide (HC.out.1.1 hneg)
        have d1 : decide (r < 0) = true := decide_eq_true hneg
        clear hneg
        go_wp2_with fail
        go_roundg (hi - ((lo + hi) / 2 + 1))
        case measure => omega
        case rel =>
          refine ⟨(lo + hi) / 2 + 1, hi, by go_num, rfl, by omega, hin, Nat.le_refl _, G1, hide ⟨fun t z ht hz => ?_, HI.out.2⟩⟩
          have h1 := HK.out
          rcases Nat.lt_or_ge t ((lo + hi) / 2) with h2 | h2
          · have h3 : z.k < y.k := by
              have h4 := (List.getElem?_eq_some_iff.1 hz)
              have h5 := (List.getElem?_eq_some_iff.1 HY.out)
              have h6 := List.pairwise_iff_getElem.1 HS.out t ((lo + hi) / 2) h4.1 h5.1 h2
              rwa [h4.2, h5.2] at h6
            omega
          · obtain rfl : t = (lo + hi) / 2 := by omega
            rw [HY.out] at hz
            injection hz with hz
            subst hz
            exact h1
      · have HK := hide (show k ≤ y.k from Int.not_lt.1 fun h => hneg (HC.out.1.2 h))
        have d1 : decide (r < 0) = false := decide_eq_false hneg
        clear hneg
        go_wp2_with fail
        go_roundg ((lo + hi) / 2 - lo)
        case measure => omega
        case rel =>
          refine ⟨lo, (lo + hi) / 2, rfl, by go_num, by omega, by omega, Nat.le_refl _, G1, hide ⟨HI.out.1, fun t z ht hz => ?_⟩⟩
          have h1 := HK.out
          rcases Nat.lt_or_ge ((lo + hi) / 2) t with h2 | h2
          · have h3 : y.k < z.k := by
              have h4 := (List.getElem?_eq_some_iff.1 hz)
              have h5 := (List.getElem?_eq_some_iff.1 HY.out)
              have h6 := List.pairwise_iff_getElem.1 HS.out ((lo + hi) / 2) t h5.1 h4.1 h2
              rwa [h4.2, h5.2] at h6
            omega
          · obtain rfl : t = (lo + hi) / 2 := by omega
            rw [HY.out] at hz
            injection hz with hz
            subst hz
            exact h1
    · obtain rfl : hi = lo := by omega
      have HCN := hide (cnt_is (κ := Chg.k) (l := ys) (k := k) (i := hi) (by rw [HL.out]; exact hin) HI.out.1 HI.out.2)
      have d0 : decide ((hi : Int) < (hi : Int)) = false := decide_eq_false (by omega)
      by_cases hn2 : hi < n
      · obtain ⟨b, o, y, rfl, hl, hy, hc⟩ := (HR.out.keep HG.out.below).atC hn2
        obtain ⟨m0, m1, m2, m3, m4⟩ := hc
        have HY := hide hy
        obtain ⟨r, hr⟩ : ∃ r, cI y.k k = r := ⟨_, rfl⟩
        have hcy := cI_lt hr
        have a5 : (hi : Int) < (n : Int) := by omega
        have d2 : decide ((hi : Int) < (n : Int)) = true := decide_eq_true a5
        have a4 : (0 : Int) ≤ (hi : Int) := by omega
        have a6 : ((hi : Int)).toNat = hi := by omega
        have HF := hide (show fnd Chg.k k ys = (r == 0) by
          unfold fnd
          rw [← HCN.out, hy, Bool.beq_eq_decide_eq]
          refine decide_eq_decide.2 ⟨?_, fun h => ⟨y, rfl, hcy.2.1 h⟩⟩
          rintro ⟨z, hz, e⟩
          injection hz with hz
          subst hz
          exact hcy.2.2 e)
        have HCL := hide (clC_any y k g t wr (HB.out.below HG.out.below HB.out.lt) r hr)
        clear hy hr hcy
        go_wp2_with fail
        refine HCL.out.mono ?_
        rintro e w1 ⟨rfl, g1⟩
        have G1 := hide (HG.out.trans g1)
        clear g1 m0 m1 m2 m3 m4
        go_wp2_with fail
        go_ret2
        exact ⟨by rw [← HCN.out, HF.out]; rfl, G1.out⟩
      · obtain rfl : hi = n := by omega
        have d2 : decide ((hi : Int) < (hi : Int)) = false := decide_eq_false (by omega)
        have HF := hide (show fnd Chg.k k ys = false by
          unfold fnd
          rw [← HCN.out]
          refine decide_eq_false ?_
          rintro ⟨z, hz, e⟩
          have := (List.getElem?_eq_some_iff.1 hz).1
          have := HL.out
          omega)
        go_wp2_with fail
        go_ret2
        exact ⟨by rw [← HCN.out, HF.out]; rfl, HG.out⟩
set_option maxHeartbeats 2000000 in
theorem placeC_any (A : Option Addr) (n c : Nat) (ys : List Chg) (k : Int) (w : World) (hr : SL eC w A n ys) (hs : Srt Chg.k ys) (hn : n ≤ 1000) :
    Calls Try.prog 50 #[.slice A n c, .int .i64 k, .func (.func 42) #[] #[]] w fun e w' => e = .returned (.tuple #[.int .i64 (cnt Chg.k k ys : Nat), .bool (fnd Chg.k k ys)]) ∧ Gr w w' := by
  have H := hide (fun (t : TypeId) => bsC_any A n c ys k w.heap.size t (w.alloc (.cells #[.func (.func 42) #[] #[]] t)) (hr.keep ((Below.refl _ _).alloc (Nat.le_refl _) _)) hs (newE _ _ _ rfl) hn)
  clear hr hs
  go_enter Try.func50, Try.ntmps50
  go_wp2_with fail
  refine (H.out _).mono ?_
  rintro e w1 ⟨rfl, g1⟩
  have G1 := hide (((Gr.refl w).alloc _).trans g1)
  clear g1
  go_wp2_with fail
  go_ret2
  exact ⟨rfl, G1.out⟩

set_option maxHeartbeats 2000000 in
theorem side_any (A : Option Addr) (n c : Nat) (ys : List Ent) (k : Int) (w : World) (hr : SL eE w A n ys) (hs : Srt Ent.k ys) (hn : n ≤ 1000) (s : Sd) (hs2 : at' ys k = s) :
    Calls Try.prog 47 #[.slice A n c, .int .i64 k] w fun e w' => e = .returned (.agg #[.int .i64 s.v, .bool s.i]) ∧ Gr w w' := by
  have HP := hide (fun (t : TypeId) => placeE_any A n c ys k (w.alloc (.cells #[.int .i64 0, .bool false] t)) (hr.keep ((Below.refl _ _).alloc (Nat.le_refl _) _)) hs hn)
  cases hf : fnd Ent.k k ys with
  | true =>
    obtain ⟨y, h1, h2, h3⟩ := fnd_yes hs hf
    have e1 : at' ys k = ⟨y.v, true⟩ := by unfold at' hitE; rw [h3]; rfl
    rw [e1] at hs2
    subst hs2
    rw [hf] at HP
    have hlt : cnt Ent.k k ys < n := by rw [← hr.1]; exact (List.getElem?_eq_some_iff.1 h1).1
    have HY := hide h1
    have HS := hide hr
    clear h1 h2 h3 e1 hf hr hs
    generalize cnt Ent.k k ys = i at *
    go_enter Try.func47, Try.ntmps47
    go_wp2_with fail
    refine (HP.out _).mono ?_
    rintro e w1 ⟨rfl, g1⟩
    have G0 := hide g1
    have G1 := hide (((Gr.refl w).alloc _).trans g1)
    clear g1
    obtain ⟨b, o, y', rfl, hl, hy', m0, m1⟩ := (HS.out.keep G1.out.below).atE hlt
    obtain rfl : y' = y := by rw [HY.out] at hy'; injection hy' with hy'; exact hy'.symm
    have a1 : (0 : Int) ≤ (i : Int) := by omega
    have a2 : (i : Int) < (n : Int) := by omega
    clear hy'
    have hB := Box.below (Box.new w #[.int .i64 0, .bool false] 49) G0.out.below (Box.new w #[.int .i64 0, .bool false] 49).lt
    have k0 := hB.at_ 0
    have k1 := hB.at_ 1
    have f0 := hB.frozen 0
    have hB1 := hB.set_ 0 (.int .i64 y'.v)
    have k2 := hB1.at_ 1
    have f1 := hB1.frozen 1
    have hB2 := hB1.set_ 1 (.bool true)
    have r0 := hB2.at_ 0
    have r1 := hB2.at_ 1
    simp only [List.getElem?_toArray, List.setIfInBounds_toArray, List.set_cons_zero, List.set_cons_succ, List.getElem?_cons_zero, List.getElem?_cons_succ] at k0 k1 k2 r0 r1
    clear hB hB1 hB2
    go_wp2_with fail
    exact bodyPost_ret (v := .agg #[.int .i64 (⟨y'.v, true⟩ : Sd).v, .bool (⟨y'.v, true⟩ : Sd).i]) (by simp [results, Try.results47, go_sem, r0, r1]) rfl ⟨rfl, (G1.out.set _ _ (Nat.le_refl _)).set _ _ (Nat.le_refl _)⟩
  | false =>
    have h3 := fnd_no hs hf
    have e1 : at' ys k = ⟨0, false⟩ := by unfold at' hitE; rw [h3]; rfl
    rw [e1] at hs2
    subst hs2
    rw [hf] at HP
    clear h3 e1 hf hr hs
    generalize cnt Ent.k k ys = i at *
    go_enter Try.func47, Try.ntmps47
    go_wp2_with fail
    refine (HP.out _).mono ?_
    rintro e w1 ⟨rfl, g1⟩
    have G0 := hide g1
    have G1 := hide (((Gr.refl w).alloc _).trans g1)
    clear g1
    have hB := Box.below (Box.new w #[.int .i64 0, .bool false] 49) G0.out.below (Box.new w #[.int .i64 0, .bool false] 49).lt
    have k0 := hB.at_ 0
    have k1 := hB.at_ 1
    have f0 := hB.frozen 0
    have hB1 := hB.set_ 0 (.int .i64 0)
    have k2 := hB1.at_ 1
    have f1 := hB1.frozen 1
    have hB2 := hB1.set_ 1 (.bool false)
    have r0 := hB2.at_ 0
    have r1 := hB2.at_ 1
    simp only [List.getElem?_toArray, List.setIfInBounds_toArray, List.set_cons_zero, List.set_cons_succ, List.getElem?_cons_zero, List.getElem?_cons_succ] at k0 k1 k2 r0 r1
    clear hB hB1 hB2
    go_wp2_with fail
    exact bodyPost_ret (v := .agg #[.int .i64 (⟨0, false⟩ : Sd).v, .bool (⟨0, false⟩ : Sd).i]) (by simp [results, Try.results47, go_sem, r0, r1]) rfl ⟨rfl, (G1.out.set _ _ (Nat.le_refl _)).set _ _ (Nat.le_refl _)⟩
end Go.Proofs.Ytadmiecoahohiaa
