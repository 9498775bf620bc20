/- The union of two lists; contradictions; Join. -/
import Derived.Test.YtalbdclcappjpaaGreatDY
import Derived.Test.YtalbdclcappjpaaGreatDS
namespace Go.Proofs.YtalbdclcappjpaaGreat
open Go Go.RowKit Go.Lib

theorem srt_weakM {zs : List Mk} (hv : ∀ x ∈ zs, vM x = true) (h : zs.Pairwise fun x y => ltOf cmpM y x = false) : zs.Pairwise fun x y => x.key ≤ y.key := by
  refine List.Pairwise.imp_of_mem ?_ h
  intro x y hx hy hxy
  rw [ltM_is] at hxy
  have hxy := of_decide_eq_false hxy
  have h1 := (vM_true.1 (hv x hx))
  have h2 := (vM_true.1 (hv y hy))
  unfold Mk.key
  skip
  omega
set_option maxHeartbeats 2000000 in
theorem unionM_any (A : Option Addr) (n c : Nat) (a : List Mk) (A' : Option Addr) (m d : Nat) (b : List Mk) (w : World) (ha : SL eM w A n a) (hb : SL eM w A' m b) (sa : Srt Mk.key a) (sb : Srt Mk.key b) (va : ∀ x ∈ a, vM x = true) (vb : ∀ x ∈ b, vM x = true) (hg : Agr Mk.key a b) (hn : n ≤ 200) (hm : m ≤ 200) :
    Calls Tryz.prog 29 #[.slice A n c, .slice A' m d, .func (.func 30) #[] #[]] w fun e w' => ∃ A2 c2, e = .returned (.slice A2 (uni Mk.key a b).length c2) ∧ Ow eM w' w.heap.size A2 (uni Mk.key a b).length c2 (uni Mk.key a b) ∧ Below w.heap.size w w' := by
  have HA := hide ha
  have HB := hide hb
  have HL := hide (And.intro ha.1 hb.1)
  have HU := hide (fun (zs : List Mk) (hp : zs.Perm (a ++ b)) (hw : zs.Pairwise fun x y => ltOf cmpM y x = false) => cmpct_uni sa sb hg hp (srt_weakM (fun x hx => by
    rcases List.mem_append.1 (hp.mem_iff.1 hx) with h | h
    · exact va x h
    · exact vb x h) hw))
  clear ha hb sa sb va vb hg
  go_enter Tryz.func29, Tryz.ntmps29
  go_wp2_with fail
  refine (concatM_any w.heap.size A n c a A' m d b _ _ (newE _ _ _ rfl) (HA.out.keep ((Below.refl _ _).alloc (Nat.le_refl _) _)) (HB.out.keep ((Below.refl _ _).alloc (Nat.le_refl _) _)) (by omega) (by omega)).mono ?_
  rintro e w1 ⟨v, rfl, A1, c1, rfl, o1, b1⟩
  obtain ⟨L, hL⟩ : ∃ L, a ++ b = L := ⟨_, rfl⟩
  have hl : L.length ≤ 2000 := by have := HL.out; rw [← hL, List.length_append]; omega
  rw [hL] at o1 HU ⊢
  have O1 := hide (o1.low (by simp : w.heap.size ≤ _))
  have B1 := hide (Below.next ((Below.refl w.heap.size w).alloc (Nat.le_refl _) _) b1)
  clear o1 b1
  go_wp2_with fail
  refine (sortM_any w.heap.size _ c1 A1 L w1 O1.out hl).mono ?_
  rintro e w2 ⟨rfl, zs, hp, hw, o2, t2⟩
  have HZ := hide (HU.out zs hp hw)
  have O2 := hide o2
  have B2 := hide (Turn.onto B1.out t2 fun k hk => (O1.out.blk k hk).1)
  have B0 := hide B1.out.size
  clear hp hw o2 t2
  go_wp2_with fail
  refine (compactM_any w.heap.size _ c1 A1 zs w2 O2.out hl).mono ?_
  rintro e w3 ⟨rfl, o3, t3⟩
  have O3 := hide o3
  have B3 := hide (Turn.onto B2.out t3 fun k hk => (O2.out.blk k hk).1)
  clear o3 t3
  go_wp2_with fail
  go_ret
  rw [HZ.out] at O3 ⊢
  exact ⟨A1, c1, rfl, O3.out, B3.out⟩

theorem srt_weakD {zs : List Dec} (hv : ∀ x ∈ zs, vD x = true) (h : zs.Pairwise fun x y => ltOf cmpD y x = false) : zs.Pairwise fun x y => x.key ≤ y.key := by
  refine List.Pairwise.imp_of_mem ?_ h
  intro x y hx hy hxy
  rw [ltD_is] at hxy
  have hxy := of_decide_eq_false hxy
  have h1 := (vM_true.1 (vD_vM (hv x hx)))
  have h2 := (vM_true.1 (vD_vM (hv y hy)))
  unfold Dec.key
  simp only [Dec.mk_] at h1 h2
  omega
set_option maxHeartbeats 2000000 in
theorem unionD_any (A : Option Addr) (n c : Nat) (a : List Dec) (A' : Option Addr) (m d : Nat) (b : List Dec) (w : World) (ha : SL eD w A n a) (hb : SL eD w A' m b) (sa : Srt Dec.key a) (sb : Srt Dec.key b) (va : ∀ x ∈ a, vD x = true) (vb : ∀ x ∈ b, vD x = true) (hg : Agr Dec.key a b) (hn : n ≤ 200) (hm : m ≤ 200) :
    Calls Tryz.prog 27 #[.slice A n c, .slice A' m d, .func (.func 28) #[] #[]] w fun e w' => ∃ A2 c2, e = .returned (.slice A2 (uni Dec.key a b).length c2) ∧ Ow eD w' w.heap.size A2 (uni Dec.key a b).length c2 (uni Dec.key a b) ∧ Below w.heap.size w w' := by
  have HA := hide ha
  have HB := hide hb
  have HL := hide (And.intro ha.1 hb.1)
  have HU := hide (fun (zs : List Dec) (hp : zs.Perm (a ++ b)) (hw : zs.Pairwise fun x y => ltOf cmpD y x = false) => cmpct_uni sa sb hg hp (srt_weakD (fun x hx => by
    rcases List.mem_append.1 (hp.mem_iff.1 hx) with h | h
    · exact va x h
    · exact vb x h) hw))
  clear ha hb sa sb va vb hg
  go_enter Tryz.func27, Tryz.ntmps27
  go_wp2_with fail
  refine (concatD_any w.heap.size A n c a A' m d b _ _ (newE _ _ _ rfl) (HA.out.keep ((Below.refl _ _).alloc (Nat.le_refl _) _)) (HB.out.keep ((Below.refl _ _).alloc (Nat.le_refl _) _)) (by omega) (by omega)).mono ?_
  rintro e w1 ⟨v, rfl, A1, c1, rfl, o1, b1⟩
  obtain ⟨L, hL⟩ : ∃ L, a ++ b = L := ⟨_, rfl⟩
  have hl : L.length ≤ 2000 := by have := HL.out; rw [← hL, List.length_append]; omega
  rw [hL] at o1 HU ⊢
  have O1 := hide (o1.low (by simp : w.heap.size ≤ _))
  have B1 := hide (Below.next ((Below.refl w.heap.size w).alloc (Nat.le_refl _) _) b1)
  clear o1 b1
  go_wp2_with fail
  refine (sortD_any w.heap.size _ c1 A1 L w1 O1.out hl).mono ?_
  rintro e w2 ⟨rfl, zs, hp, hw, o2, t2⟩
  have HZ := hide (HU.out zs hp hw)
  have O2 := hide o2
  have B2 := hide (Turn.onto B1.out t2 fun k hk => (O1.out.blk k hk).1)
  have B0 := hide B1.out.size
  clear hp hw o2 t2
  go_wp2_with fail
  refine (compactD_any w.heap.size _ c1 A1 zs w2 O2.out hl).mono ?_
  rintro e w3 ⟨rfl, o3, t3⟩
  have O3 := hide o3
  have B3 := hide (Turn.onto B2.out t3 fun k hk => (O2.out.blk k hk).1)
  clear o3 t3
  go_wp2_with fail
  go_ret
  rw [HZ.out] at O3 ⊢
  exact ⟨A1, c1, rfl, O3.out, B3.out⟩

/-- contradicts one of a ledger -/
def Bad (s : Led) (x : Dec) : Prop := ∃ y ∈ s.d, y.key = x.key ∧ y ≠ x
instance (s : Led) (x : Dec) : Decidable (Bad s x) := by unfold Bad; infer_instance
theorem bad_agr {s : Led} {l : List Dec} : (¬ ∃ x ∈ l, Bad s x) ↔ Agr Dec.key s.d l := by
  constructor
  · intro h x hx y hy e
    by_cases hxy : x = y
    · exact hxy
    · exact absurd ⟨y, hy, x, hx, e, hxy⟩ h
  · rintro h ⟨x, hx, y, hy, e, hne⟩
    exact hne (h y hy x hx e)
set_option maxHeartbeats 4000000 in
theorem cc_any (w : World) (B p g : Nat) (F : Nat → Prop) (s : Led) (x : Dec) (t : TypeId) (h : LN w B F p s) (hb : Box w g #[.pointer (some ⟨p, 0, none⟩)] t) (hv : vD x = true) (r : Bool) (hr : decide (Bad s x) = r) :
    Calls Tryz.prog 52 #[.agg #[.int .i64 x.u, .int .i64 x.n, .int .i64 x.k, .int .i64 x.a, .int .i64 x.b], .pointer (some ⟨g, 0, none⟩)] w fun e w' => e = .returned (.bool r) ∧ Gr w w' := by
  have H := hide h
  have HR := hide hr
  have HB := hide hb
  clear hb h hr
  go_enter Tryz.func52, Tryz.ntmps52
  go_wp2_with fail
  generalize hW : w.alloc _ = W
  obtain ⟨G, bm⟩ : Gr w W ∧ Box W w.heap.size #[.int .i64 x.u, .int .i64 x.n, .int .i64 x.k, .int .i64 x.a, .int .i64 x.b] 44 := by
    subst hW
    exact ⟨(by ((repeat (first | (with_reducible assumption) | (with_reducible exact Gr.refl _) | (with_reducible refine Gr.drew ?_) | (with_reducible refine Gr.alloc ?_ _) | (with_reducible refine Gr.trans ?_ (by assumption)))); (first | done | fail))), newE _ _ _ (by simp)⟩
  clear hW
  have KS : Hid (∀ w', Gr W w' → w'.cell? ⟨g, 0, none⟩ = some (.pointer (some ⟨p, 0, none⟩)) ∧ CellsD w' w.heap.size 0 x) := fun w' h => ⟨(HB.out.below (G.trans h).below HB.out.lt).at_ 0, (bm.below h.below bm.lt).at_ 0, (bm.below h.below bm.lt).at_ 1, (bm.below h.below bm.lt).at_ 2, (bm.below h.below bm.lt).at_ 3, (bm.below h.below bm.lt).at_ 4⟩
  have HLN : Hid (∀ w', Gr W w' → LN w' B F p s) := fun w' h => H.out.keep (G.trans h).below
  have hvm := vD_vM hv
  have KS2 : Hid (∀ w', Gr W w' → w'.cell? ⟨g, 0, none⟩ = some (.pointer (some ⟨p, 0, none⟩)) ∧ w'.cell? ⟨w.heap.size, 0, none⟩ = some (.int .i64 x.u) ∧ w'.cell? ⟨w.heap.size, 1, none⟩ = some (.int .i64 x.n) ∧ w'.cell? ⟨w.heap.size, 2, none⟩ = some (.int .i64 x.k) ∧ w'.cell? ⟨w.heap.size, 3, none⟩ = some (.int .i64 x.a) ∧ w'.cell? ⟨w.heap.size, 4, none⟩ = some (.int .i64 x.b)) := fun w' h => by
    have h1 := KS.out w' h
    exact ⟨h1.1, h1.2.1, h1.2.2.1, h1.2.2.2.1, h1.2.2.2.2.1, h1.2.2.2.2.2⟩
  go_region_held3 (fun w' => w'.cell? ⟨g, 0, none⟩ = some (.pointer (some ⟨p, 0, none⟩)) ∧ w'.cell? ⟨w.heap.size, 0, none⟩ = some (.int .i64 x.u) ∧ w'.cell? ⟨w.heap.size, 1, none⟩ = some (.int .i64 x.n) ∧ w'.cell? ⟨w.heap.size, 2, none⟩ = some (.int .i64 x.k) ∧ w'.cell? ⟨w.heap.size, 3, none⟩ = some (.int .i64 x.a) ∧ w'.cell? ⟨w.heap.size, 4, none⟩ = some (.int .i64 x.b))
    (exact KS2.out _ (by ((repeat (first | (with_reducible assumption) | (with_reducible exact Gr.refl _) | (with_reducible refine Gr.drew ?_) | (with_reducible refine Gr.alloc ?_ _) | (with_reducible refine Gr.trans ?_ (by assumption)))); (first | done | fail))))
    (first
      | (go_at_call 42; (with_reducible refine (mark_any x _).mono ?_); rintro e w1 ⟨rfl, hg⟩)
      | (go_at_call 41; (with_reducible refine (pm_any _ B p F s x.mk_ (HLN.out _ (by ((repeat (first | (with_reducible assumption) | (with_reducible exact Gr.refl _) | (with_reducible refine Gr.drew ?_) | (with_reducible refine Gr.alloc ?_ _) | (with_reducible refine Gr.trans ?_ (by assumption)))); (first | done | fail)))) hvm).mono ?_); rintro e w1 ⟨rfl, hg⟩))
  all_goals
    have Z := hide (show Gr W w1 from (by ((repeat (first | (with_reducible assumption) | (with_reducible exact Gr.refl _) | (with_reducible refine Gr.drew ?_) | (with_reducible refine Gr.alloc ?_ _) | (with_reducible refine Gr.trans ?_ (by assumption)))); (first | done | fail))))
    rw [mk_key]
    cases hf : fnd Dec.key x.key s.d with
    | true =>
      have hf' := hf
      unfold fnd at hf'
      obtain ⟨y, hy, hk⟩ := of_decide_eq_true hf'
      have HY := hide hy
      have HK := hide hk
      obtain ⟨p0, b0, b1, b2, b3, b4⟩ := KS2.out w1 Z.out
      obtain ⟨hok, _, _, A, c, A', c', hb, hd, _⟩ := HLN.out w1 Z.out
      have hlt : cnt Dec.key x.key s.d < s.d.length := (List.getElem?_eq_some_iff.1 hy).1
      have p1 : w1.cell? ⟨p, 0, none⟩ = some (.slice A s.d.length c) := hb.at_ 0
      obtain ⟨b, o, y', rfl, hl, hy', hcy⟩ := hd.sl.atD hlt
      obtain rfl : y' = y := by rw [hy] at hy'; injection hy' with hy'; exact hy'.symm
      obtain ⟨m0, m1, m2, m3, m4⟩ := hcy
      have HRR := hide (show decide (y' = x) = !r by
        rw [← HR.out]
        have hm := List.mem_of_getElem? HY.out
        by_cases hyx : y' = x
        · rw [decide_eq_true hyx, decide_eq_false (fun ⟨z, hz, e1, e2⟩ => e2 (by rw [← hyx]; exact hok.1.inj hz hm (by rw [e1, HK.out])))]; rfl
        · rw [decide_eq_false hyx, decide_eq_true ⟨y', hm, HK.out, hyx⟩]; rfl)
      clear hy hk hf' hb hd hy' hf hok
      generalize cnt Dec.key x.key s.d = i at *
      have a1 : (0 : Int) ≤ (i : Int) := by omega
      have a2 : (i : Int) < (s.d.length : Int) := by omega
      have e0 := fun (w : World) => eqD_run y' x w (!r) HRR.out
      go_wp2_with fail
      go_region
      all_goals
        cases r <;>
        · go_wp2_with fail
          go_ret
          exact ⟨rfl, G.trans (Z.out.trans (by ((repeat (first | (with_reducible assumption) | (with_reducible exact Gr.refl _) | (with_reducible refine Gr.drew ?_) | (with_reducible refine Gr.alloc ?_ _) | (with_reducible refine Gr.trans ?_ (by assumption)))); (first | done | fail))))⟩
    | false =>
      have hno : ¬ ∃ y ∈ s.d, y.key = x.key := fun hh => by rw [(fnd_d H.out.1.1 x).2 hh] at hf; cases hf
      have hf0 : r = false := by rw [← HR.out]; exact decide_eq_false fun ⟨y, hy, e, _⟩ => hno ⟨y, hy, e⟩
      clear hf
      go_wp2_with fail
      go_region
      all_goals
        go_wp2_with fail
        go_ret
        exact ⟨by rw [hf0]; rfl, G.trans (Z.out.trans (by ((repeat (first | (with_reducible assumption) | (with_reducible exact Gr.refl _) | (with_reducible refine Gr.drew ?_) | (with_reducible refine Gr.alloc ?_ _) | (with_reducible refine Gr.trans ?_ (by assumption)))); (first | done | fail))))⟩
set_option maxHeartbeats 4000000 in
theorem idx_any (w : World) (B p g : Nat) (F : Nat → Prop) (s : Led) (t : TypeId) (A : Option Addr) (n c : Nat) (l : List Dec) (h : LN w B F p s) (hb : Box w g #[.pointer (some ⟨p, 0, none⟩)] t) (hl : SL eD w A n l) (hv : ∀ x ∈ l, vD x = true) (hn : n ≤ 200) :
    Calls Tryz.prog 72 #[.slice A n c, .func (.func 52) #[] #[.pointer (some ⟨g, 0, none⟩)]] w fun e w' => ∃ v : Int, e = .returned (.int .i64 v) ∧ decide (0 ≤ v) = decide (∃ x ∈ l, Bad s x) ∧ Gr w w' := by
  have H := hide h
  have HB := hide hb
  have HS := hide hl
  have HV := hide hv
  clear h hb hl hv
  go_enter Tryz.func72, Tryz.ntmps72
  go_wp2_with fail
  go_loopw [8] (fun i wr => ∃ k : Nat, i = .int .i64 (k : Int) ∧ k ≤ n ∧ Hid (∀ x ∈ l.take k, ¬ Bad s x) ∧ Hid (Gr w wr)) (fun i _ => n - (RowKit.intOf i).toNat)
  case atStart => exact ⟨0, rfl, Nat.zero_le _, hide (fun x hx => by cases hx), hide (Gr.refl _)⟩
  case round =>
    obtain ⟨k, rfl, hk, HN, HG⟩ := hrel
    by_cases hlt : k < n
    · obtain ⟨b, o, y, rfl, hl, hy, hcy⟩ := (HS.out.keep HG.out.below).atD hlt
      obtain ⟨m0, m1, m2, m3, m4⟩ := hcy
      have HY := hide hy
      have hvy := HV.out y (List.mem_of_getElem? hy)
      have d0 : decide ((k : Int) < (n : Int)) = true := decide_eq_true (by omega)
      have a1 : (0 : Int) ≤ (k : Int) := by omega
      have a2 : (k : Int) < (n : Int) := by omega
      clear hy
      go_wp2_with fail
      by_cases hbd : Bad s y
      · refine (cc_any wr B p g F s y t (H.out.keep HG.out.below) (HB.out.below HG.out.below HB.out.lt) hvy true (decide_eq_true hbd)).mono ?_
        rintro e w1 ⟨rfl, g1⟩
        have G1 := hide (HG.out.trans g1)
        clear g1
        go_wp2_with fail
        go_ret
        refine ⟨(k : Int), rfl, ?_, G1.out⟩
        rw [decide_eq_true (show ∃ x ∈ l, Bad s x from ⟨y, List.mem_of_getElem? HY.out, hbd⟩)]
        exact decide_eq_true (by omega)
      · refine (cc_any wr B p g F s y t (H.out.keep HG.out.below) (HB.out.below HG.out.below HB.out.lt) hvy false (decide_eq_false hbd)).mono ?_
        rintro e w1 ⟨rfl, g1⟩
        have G1 := hide (HG.out.trans g1)
        have HBD := hide hbd
        clear g1 hbd
        go_wp2_with fail
        go_roundw
        case rel =>
          refine ⟨k + 1, by go_num, by omega, hide ?_, G1⟩
          intro x hx
          rw [take_next HY.out] at hx
          rcases List.mem_append.1 hx with h | h
          · exact HN.out x h
          · rw [List.mem_singleton] at h; rw [h]; exact HBD.out
        case measure => simp [RowKit.intOf]; omega
    · obtain rfl : k = n := by omega
      have d0 : decide ((k : Int) < (k : Int)) = false := decide_eq_false (by omega)
      go_wp2_with fail
      go_ret
      refine ⟨-1, rfl, ?_, HG.out⟩
      have h1 := HN.out
      rw [List.take_of_length_le (by rw [HS.out.1]; exact Nat.le_refl _)] at h1
      rw [decide_eq_false (show ¬ ∃ x ∈ l, Bad s x from fun ⟨x, hx, hb⟩ => h1 x hx hb)]
      exact decide_eq_false (by decide)
set_option maxHeartbeats 2000000 in
theorem cont_any (w : World) (B p g : Nat) (F : Nat → Prop) (s : Led) (t : TypeId) (A : Option Addr) (n c : Nat) (l : List Dec) (h : LN w B F p s) (hb : Box w g #[.pointer (some ⟨p, 0, none⟩)] t) (hl : SL eD w A n l) (hv : ∀ x ∈ l, vD x = true) (hn : n ≤ 200) :
    Calls Tryz.prog 51 #[.slice A n c, .func (.func 52) #[] #[.pointer (some ⟨g, 0, none⟩)]] w fun e w' => e = .returned (.bool (decide (∃ x ∈ l, Bad s x))) ∧ Gr w w' := by
  have H := hide (idx_any w B p g F s t A n c l h hb hl hv hn)
  clear h hb hl hv
  go_enter Tryz.func51, Tryz.ntmps51
  go_wp2_with fail
  refine H.out.mono ?_
  rintro e w1 ⟨v, rfl, hd, g1⟩
  have HD := hide hd
  have G1 := hide g1
  clear hd g1
  go_wp2_with fail
  go_ret
  exact ⟨by rw [← HD.out]; rfl, G1.out⟩
set_option maxHeartbeats 2000000 in
theorem contra_any (w : World) (B p : Nat) (F : Nat → Prop) (s : Led) (B' q : Nat) (F' : Nat → Prop) (t : Led) (h : LN w B F p s) (h' : LN w B' F' q t) :
    Calls Tryz.prog 26 #[.pointer (some ⟨p, 0, none⟩), .pointer (some ⟨q, 0, none⟩)] w fun e w' => e = .returned (.bool (decide (∃ x ∈ t.d, Bad s x))) ∧ Gr w w' := by
  have H := hide h
  have H' := hide h'
  obtain ⟨hok, _, _, A, c, A', c', hb, hd, _⟩ := h'
  have hq : q < w.heap.size := hb.lt
  have q1 : (w.alloc (.cells #[.pointer (some ⟨p, 0, none⟩)] 25)).cell? ⟨q, 0, none⟩ = some (.slice A t.d.length c) := (hb.alloc _).at_ 0
  have HS := hide hd.sl
  have HK := hide (And.intro hok.2.1 hok.2.2.1)
  clear hb hd hok h
  go_enter Tryz.func26, Tryz.ntmps26
  go_wp2_with fail
  refine (cont_any _ B p w.heap.size F s _ A t.d.length c t.d (H.out.keep ((Below.refl _ _).alloc (Nat.le_refl _) _)) (newE _ _ _ rfl) (HS.out.keep ((Below.refl _ _).alloc (Nat.le_refl _) _)) HK.out.1 HK.out.2).mono ?_
  rintro e w1 ⟨rfl, g1⟩
  have G1 := hide (((Gr.refl w).alloc _).trans g1)
  clear g1
  go_wp2_with fail
  go_ret
  exact ⟨rfl, G1.out⟩
end Go.Proofs.YtalbdclcappjpaaGreat
