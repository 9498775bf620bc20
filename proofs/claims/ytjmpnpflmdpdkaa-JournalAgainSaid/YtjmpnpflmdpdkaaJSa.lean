/- Entries as arguments; few; same. -/
import Derived.Test.YtjmpnpflmdpdkaaJRd
import Derived.Test.YtjmpnpflmdpdkaaJRp
import Derived.Deep.LoopGhost
namespace Go.Proofs.Ytjmpnpflmdpdkaa
open Go Go.RowKit FM

/-- a slice of entries that reads as hs -/
def YE (w : World) (A : Option Addr) (n : Nat) (hs : List Hd) : Prop :=
  hs.length = n ∧ (0 < n → ∃ b o, A = some ⟨b, o, none⟩ ∧ ∀ j u, (flatH hs)[j]? = some u → w.cell? ⟨b, o + j, none⟩ = some u)
def All (_ : Nat) : Prop := True
/-- an argument: entries -/
def AE (w : World) (A : Option Addr) (n : Nat) (es : List Ent) : Prop := ∃ hs, YE w A n hs ∧ EV w All hs es ∧ (∀ e ∈ es, e.1 < 256 ∧ e.2.length ≤ maxLen)
section
variable {w w' : World} {A : Option Addr} {n : Nat} {es : List Ent}
theorem YE.below {hs : List Hd} (h : YE w A n hs) (hb : Below w.heap.size w w') : YE w' A n hs := ⟨h.1, fun hn => by
  obtain ⟨b, o, e, hc⟩ := h.2 hn
  exact ⟨b, o, e, fun j u hu => (hb.cell (p := ⟨b, o + j, none⟩) (World.block_lt_of_cell? w _ (hc j u hu))).trans (hc j u hu)⟩⟩
theorem AE.below (h : AE w A n es) (hb : Below w.heap.size w w') : AE w' A n es := by
  obtain ⟨hs, h1, h2, h3⟩ := h
  exact ⟨hs, h1.below hb, h2.below hb, h3⟩
theorem AE.len (h : AE w A n es) : es.length = n := by
  obtain ⟨hs, h1, h2, h3⟩ := h
  rw [← h2.1, h1.1]
theorem AE.take (h : AE w A n es) {k : Nat} (hk : k ≤ n) : AE w A k (es.take k) := by
  obtain ⟨hs, h1, h2, h3⟩ := h
  refine ⟨hs.take k, ⟨by rw [List.length_take, h1.1]; omega, fun h0 => ?_⟩, h2.take k, fun e he => h3 e (List.mem_of_mem_take he)⟩
  obtain ⟨b, o, e, hc⟩ := h1.2 (by omega)
  refine ⟨b, o, e, fun j u hu => hc j u ?_⟩
  have hj : j < k * 2 := by
    have := (List.getElem?_eq_some_iff.1 hu).1
    rw [flatH_len, List.length_take, h1.1] at this
    omega
  rw [flatH_take, List.getElem?_take_of_lt hj] at hu
  exact hu
theorem AE.at_ {j : Nat} (h : AE w A n es) (hj : j < n) : ∃ b o k x Ad nd cd, A = some ⟨b, o, none⟩ ∧ es[j]? = some (k, x) ∧ k < 256 ∧ w.cell? ⟨b, o + j * 2, none⟩ = some (.int .u8 (k : Int)) ∧ w.cell? ⟨b, o + j * 2 + 1, none⟩ = some (.slice Ad nd cd) ∧ BR w Ad nd x ∧ nd ≤ maxLen := by
  have hl := h.len
  obtain ⟨hs, h1, h2, h3⟩ := h
  obtain ⟨b, o, e, hc⟩ := h1.2 (by omega)
  have he : es[j]? = some es[j] := List.getElem?_eq_getElem (by omega)
  obtain ⟨hd, hhd, d1, d2, d3⟩ := h2.at_ he
  obtain ⟨f1, f2⟩ := flatH_get hhd
  obtain ⟨m1, m2⟩ := h3 _ (List.mem_of_getElem? he)
  refine ⟨b, o, es[j].1, es[j].2, hd.2.1, hd.2.2.1, hd.2.2.2, e, he, m1, by rw [← d1]; exact hc _ _ f1, by rw [Nat.add_assoc]; exact hc _ _ f2, d2, by rw [← d2.len]; exact m2⟩
theorem AE.kinds (h : AE w A n es) : ∀ e ∈ es, e.1 < 256 ∧ By e.2 := by
  intro e he
  obtain ⟨j, hj⟩ := List.getElem?_of_mem he
  have hl := h.len
  obtain ⟨b, o, k, x, Ad, nd, cd, _, e2, e3, _, _, e6, _⟩ := h.at_ (j := j) (by have := (List.getElem?_eq_some_iff.1 hj).1; omega)
  rw [hj] at e2
  injection e2 with e2
  subst e2
  exact ⟨e3, e6.2⟩
end
def fewB (l : List Ent) : Bool := decide (l.length ≤ 30) && decide (tot l ≤ 1000)
theorem fewB_iff {l : List Ent} : fewB l = true ↔ few l := by simp [fewB, few]
theorem tot_snoc {l : List Ent} {k : Nat} {e : Ent} (h : l[k]? = some e) : tot (l.take (k + 1)) = tot (l.take k) + min e.2.length 10000 := by
  rw [take_snocE h]; simp [tot]
theorem tot_bound (l : List Ent) (k : Nat) : tot (l.take k) ≤ k * 10000 := by
  induction k with
  | zero => simp [tot]
  | succ k ih =>
    by_cases h : k < l.length
    · rw [tot_snoc (List.getElem?_eq_getElem h), Nat.succ_mul]
      exact Nat.add_le_add ih (Nat.min_le_right _ _)
    · rw [List.take_of_length_le (by omega)]
      rw [List.take_of_length_le (by omega)] at ih
      exact Nat.le_trans ih (Nat.mul_le_mul_right _ (Nat.le_succ k))
set_option maxHeartbeats 4000000 in
theorem few_any (A : Option Addr) (n c : Nat) (es : List Ent) (w : World) (hx : AE w A n es) (hn : n ≤ maxLen) (r : Bool) (hr : fewB es = r) :
    Calls Try.prog 11 #[.slice A n c] w fun e w' => e = .returned (.bool r) ∧ w = w' := by
  have HX := hide hx
  have hl := hx.len
  have HR := hide hr
  unfold maxLen at hn
  clear hx hr
  go_enter Try.func11, Try.ntmps11
  go_wp2_with fail
  go_loop [3, 4] (fun v3 v4 => ∃ (i s : Nat), v3 = .int .i64 (s : Int) ∧ v4 = .int .i64 (i : Int) ∧ i ≤ n ∧ i ≤ 50 ∧ Hid (tot (es.take i) = s)) (fun _ v4 => 50 - (intOf v4).toNat)
  case atStart => exact ⟨0, 0, rfl, rfl, by omega, by omega, hide rfl⟩
  case round =>
    obtain ⟨i, s, rfl, rfl, hi, hi5, HS⟩ := hrel
    have hsb : s ≤ i * 10000 := by rw [← HS.out]; exact tot_bound es i
    have hsb2 : s ≤ 500000 := by omega
    by_cases hlt : i < n
    · by_cases hlt5 : i < 50
      · obtain ⟨b, o, k, x, Ad, nd, cd, rfl, he, hk, c0, c1, hb, hnd⟩ := HX.out.at_ hlt
        have HN := hide (tot_snoc he)
        have hxl := hb.len
        obtain ⟨y, hy⟩ : ∃ y, min nd 10000 = y := ⟨_, rfl⟩
        have hy2 : min (nd : Int) 10000 = (y : Int) := by omega
        have hyl : y ≤ 10000 := by omega
        have HN2 := hide (show tot (es.take (i + 1)) = s + y from by rw [HN.out, HS.out]; show _ + min x.length 10000 = _; rw [hxl, hy])
        have i1 : (i : Int) < (n : Int) := by omega
        have i2 : (0 : Int) ≤ (i : Int) := by omega
        clear he hk hb hnd hxl hy HN
        go_wp2_with fail
        go_round
        case measure => simp [intOf]; omega
        case rel => exact ⟨i + 1, s + y, by go_num, by go_num, by omega, by omega, HN2⟩
      · have d5 : decide ((i : Int) < 50) = false := decide_eq_false (by omega)
        have f1 : ¬ n ≤ 30 := by omega
        have HF := hide (show r = false from by rw [← HR.out]; unfold fewB; rw [decide_eq_false (by omega)]; rfl)
        have j1 : (i : Int) < (n : Int) := by omega
        go_wp2_with fail
        go_ret
        exact ⟨by rw [HF.out]; rfl, rfl⟩
    · obtain rfl : i = n := by omega
      have HS2 := hide (show tot es = s from by have := HS.out; rwa [List.take_of_length_le (by omega)] at this)
      have d0 : decide ((i : Int) < (i : Int)) = false := by simp
      by_cases f1 : i ≤ 30
      · have HF := hide (show r = decide (s ≤ 1000) from by rw [← HR.out]; unfold fewB; rw [hl, HS2.out, decide_eq_true f1, Bool.true_and])
        go_wp2_with fail
        go_ret
        refine ⟨ret_bool ?_, rfl⟩
        rw [HF.out, decide_eq_decide]
        omega
      · have HF := hide (show r = false from by rw [← HR.out]; unfold fewB; rw [hl, decide_eq_false f1]; rfl)
        go_wp2_with fail
        go_ret
        exact ⟨by rw [HF.out]; rfl, rfl⟩
/-- the entry number i -/
def eR (es : List Ent) (i : Int) : Nat × List Nat × Nat :=
  if i < 0 then (0, [], 7) else match es[i.toNat]? with
    | some x => (x.1, x.2, 0)
    | none => (0, [], 7)
theorem ent_any (p B : Nat) (F : Nat → Prop) (es : List Ent) (w : World) (h : JN w B F p es) (i : Int) (hi : -1 ≤ i) (K : Nat) (D : List Nat) (E : Nat) (hr : eR es i = (K, D, E)) : Calls Try.prog 26 #[.pointer (some ⟨p, 0, none⟩), .int .i64 i] w (EntR w K D E) := by
  unfold eR at hr
  by_cases h0 : i < 0
  · rw [if_pos h0] at hr
    obtain rfl : i = -1 := by omega
    injection hr with h1 hr; injection hr with h2 h3
    subst h1; subst h2; subst h3
    exact ent_low p B F es w h
  · rw [if_neg h0] at hr
    obtain ⟨k, rfl⟩ : ∃ k : Nat, i = (k : Int) := ⟨i.toNat, by omega⟩
    rw [Int.toNat_natCast] at hr
    cases hx : es[k]? with
    | some x =>
      rw [hx] at hr
      injection hr with h1 hr; injection hr with h2 h3
      subst h1; subst h2; subst h3
      exact ent_at p B F es w h k x hx
    | none =>
      rw [hx] at hr
      injection hr with h1 hr; injection hr with h2 h3
      subst h1; subst h2; subst h3
      exact ent_high p B F es w h k (List.getElem?_eq_none_iff.1 hx)
theorem rent_any (p B : Nat) (F : Nat → Prop) (es : List Ent) (w : World) (h : RJ w B F p es) (i : Int) (hi : -1 ≤ i) (K : Nat) (D : List Nat) (E : Nat) (hr : eR es i = (K, D, E)) : Calls Try.prog 32 #[.pointer (some ⟨p, 0, none⟩), .int .i64 i] w (EntB w K D E) := by
  unfold eR at hr
  by_cases h0 : i < 0
  · rw [if_pos h0] at hr
    obtain rfl : i = -1 := by omega
    injection hr with h1 hr; injection hr with h2 h3
    subst h1; subst h2; subst h3
    exact rent_low p w
  · rw [if_neg h0] at hr
    obtain ⟨k, rfl⟩ : ∃ k : Nat, i = (k : Int) := ⟨i.toNat, by omega⟩
    rw [Int.toNat_natCast] at hr
    cases hx : es[k]? with
    | some x =>
      rw [hx] at hr
      injection hr with h1 hr; injection hr with h2 h3
      subst h1; subst h2; subst h3
      exact rent_at p B F es w h k x hx
    | none =>
      rw [hx] at hr
      injection hr with h1 hr; injection hr with h2 h3
      subst h1; subst h2; subst h3
      exact rent_high p B F es w h k (List.getElem?_eq_none_iff.1 hx)
theorem eR_err (es : List Ent) (i : Int) : (eR es i).2.2 = 0 ∨ (eR es i).2.2 = 7 := by
  unfold eR
  split
  · simp
  · split <;> simp
set_option maxHeartbeats 4000000 in
theorem samej_any (p q B C : Nat) (F G : Nat → Prop) (es : List Ent) (w : World) (hj : JN w B F p es) (hr : RJ w C G q es) : Calls Try.prog 16 #[.pointer (some ⟨p, 0, none⟩), .pointer (some ⟨q, 0, none⟩)] w fun e w' => e = .returned (.bool true) ∧ Below w.heap.size w w' := by
  have HJ := hide hj
  have HR := hide hr
  have HBy := hide (jb_by hj.ok.1)
  obtain ⟨N, hN⟩ : ∃ N, (jb es).length = N := ⟨_, rfl⟩
  have HN := hide hN
  have hes : es.length ≤ 65536 := by
    have e1 : ∀ l : List Ent, l.length ≤ (fr l).length := by
      intro l
      induction l with
      | nil => simp
      | cons x l ih => rw [fr_cons, List.length_append, frame_len, List.length_cons]; omega
    have := e1 es; have := hj.ok.2; rw [jb_len] at this; omega
  clear hj hr hN
  go_enter Try.func16, Try.ntmps16
  go_wp2_with fail
  (with_reducible refine (len_any p B F es _ HJ.out).mono ?_)
  rintro e w' ⟨rfl, rfl⟩
  go_wp2_with fail
  (with_reducible refine (rlen_any q C G es _ HR.out).mono ?_)
  rintro e w' ⟨rfl, rfl⟩
  go_wp2_with fail
  (with_reducible refine (jbytes_any p B F es _ HJ.out N HN.out).mono ?_)
  rintro e w1 ⟨A1, c1, rfl, hr1, hb1⟩
  have HX0 := hide (RB.br hr1 HBy.out)
  have HB1 := hide hb1
  clear hr1 hb1
  go_wp2_with fail
  (with_reducible refine (rbytes_any q C G es _ (HR.out.below HB1.out) N HN.out).mono ?_)
  rintro e w2 ⟨A2, c2, rfl, hr2, hb2⟩
  have HX1 := hide (HX0.out.below hb2)
  have HX2 := hide hr2
  replace hb2 := Below.next HB1.out hb2
  clear hr2 HX0 HB1
  have B1 := hide hb2
  clear hb2
  go_wp2_with fail
  (with_reducible refine (bytes_any _ N _ (jb es) _ N _ (jb es) _ HX1.out HX2.out true (by simp)).mono ?_)
  rintro e w' ⟨rfl, rfl⟩
  clear HX1 HX2
  go_wp2_with fail
  go_loopw [5] (fun v5 wr => ∃ i : Int, v5 = .int .i64 i ∧ -1 ≤ i ∧ i ≤ (es.length : Int) + 1 ∧ Below w.heap.size w wr) (fun v5 _ => ((es.length : Int) + 1 - intOf v5).toNat)
  case atStart => exact ⟨-1, rfl, by omega, by omega, B1.out⟩
  case round =>
    obtain ⟨i, rfl, hi1, hi2, hb⟩ := hrel
    have HB := hide hb
    clear B1 hb
    go_wp2_with fail
    (with_reducible refine (rlen_any q C G es _ (HR.out.below HB.out)).mono ?_)
    rintro e w' ⟨rfl, rfl⟩
    by_cases hle : i ≤ (es.length : Int)
    · have d1 : decide (i ≤ (es.length : Int)) = true := decide_eq_true hle
      go_wp2_with fail
      obtain ⟨K, D, E, hE⟩ : ∃ K D E, eR es i = (K, D, E) := ⟨_, _, _, rfl⟩
      have HE := hide hE
      clear hE
      (with_reducible refine (ent_any p B F es _ (HJ.out.below HB.out) i hi1 K D E HE.out).mono ?_)
      rintro e w3 ⟨A3, n3, c3, rfl, hr3, hy3, hb3⟩
      have HX3 := hide (RB.br hr3 hy3)
      have HB3 := hide (Below.next HB.out hb3)
      have h3 := HX3.out.len
      clear hr3 hy3 hb3
      go_wp2_with fail
      (with_reducible refine (rent_any q C G es _ (HR.out.below HB3.out) i hi1 K D E HE.out).mono ?_)
      rintro e w4 ⟨A4, n4, c4, rfl, hr4, hb4⟩
      have HX4 := hide hr4
      have HX5 := hide (HX3.out.below hb4)
      have HB4 := hide (Below.next HB3.out hb4)
      clear hr4 hb4 HX3 HB3
      go_wp2_with fail
      (with_reducible refine (bytes_any A3 n3 c3 _ A4 n4 c4 _ _ HX5.out HX4.out true (by simp)).mono ?_)
      rintro e w' ⟨rfl, rfl⟩
      clear HX4 HX5
      go_wp2_with fail
      go_roundw
      case measure => simp [intOf]; omega
      case rel => exact ⟨i + 1, by go_num, by omega, by omega, HB4.out⟩
    · have d1 : decide (i ≤ (es.length : Int)) = false := decide_eq_false hle
      go_wp2_with fail
      go_ret
      exact ⟨rfl, HB.out⟩
set_option maxHeartbeats 4000000 in
theorem same_nil (w : World) : Calls Try.prog 16 #[.pointer none, .pointer none] w fun e w' => e = .returned (.bool true) ∧ Below w.heap.size w w' := by
  go_enter Try.func16, Try.ntmps16
  go_wp2_with fail
  (with_reducible refine (len_nil _).mono ?_)
  rintro e w' ⟨rfl, rfl⟩
  go_wp2_with fail
  (with_reducible refine (rlen_nil _).mono ?_)
  rintro e w' ⟨rfl, rfl⟩
  go_wp2_with fail
  (with_reducible refine (bytes_nil _).mono ?_)
  rintro e w' ⟨rfl, rfl⟩
  go_wp2_with fail
  (with_reducible refine (rbytes_nil _).mono ?_)
  rintro e w' ⟨rfl, rfl⟩
  have HX1 := hide (BR.nil_ (w := w) (A := none))
  have HX2 := hide (BR.nil_ (w := w) (A := none))
  have hb2 := Below.refl w.heap.size w
  have B1 := hide hb2
  clear hb2
  go_wp2_with fail
  (with_reducible refine (bytes_any _ 0 _ [] _ 0 _ [] _ HX1.out HX2.out true (by simp)).mono ?_)
  rintro e w' ⟨rfl, rfl⟩
  clear HX1 HX2
  go_wp2_with fail
  go_loopw [5] (fun v5 wr => ∃ i : Int, v5 = .int .i64 i ∧ -1 ≤ i ∧ i ≤ (0 : Int) + 1 ∧ Below w.heap.size w wr) (fun v5 _ => ((0 : Int) + 1 - intOf v5).toNat)
  case atStart => exact ⟨-1, rfl, by omega, by omega, B1.out⟩
  case round =>
    obtain ⟨i, rfl, hi1, hi2, hb⟩ := hrel
    have HB := hide hb
    clear B1 hb
    go_wp2_with fail
    (with_reducible refine (rlen_nil _).mono ?_)
    rintro e w' ⟨rfl, rfl⟩
    by_cases hle : i ≤ (0 : Int)
    · have d1 : decide (i ≤ (0 : Int)) = true := decide_eq_true hle
      go_wp2_with fail

      (with_reducible refine (ent_nil i _).mono ?_)
      rintro e w3 ⟨A3, n3, c3, rfl, hr3, hy3, hb3⟩
      have HX3 := hide (RB.br hr3 hy3)
      have HB3 := hide (Below.next HB.out hb3)
      have h3 := HX3.out.len
      clear hr3 hy3 hb3
      go_wp2_with fail
      (with_reducible refine (rent_nil i _).mono ?_)
      rintro e w4 ⟨A4, n4, c4, rfl, hr4, hb4⟩
      have HX4 := hide hr4
      have HX5 := hide (HX3.out.below hb4)
      have HB4 := hide (Below.next HB3.out hb4)
      clear hr4 hb4 HX3 HB3
      go_wp2_with fail
      (with_reducible refine (bytes_any A3 n3 c3 _ A4 n4 c4 _ _ HX5.out HX4.out true (by simp)).mono ?_)
      rintro e w' ⟨rfl, rfl⟩
      clear HX4 HX5
      go_wp2_with fail
      go_roundw
      case measure => simp [intOf]; omega
      case rel => exact ⟨i + 1, by go_num, by omega, by omega, HB4.out⟩
    · have d1 : decide (i ≤ (0 : Int)) = false := decide_eq_false hle
      go_wp2_with fail
      go_ret
      exact ⟨rfl, HB.out⟩
end Go.Proofs.Ytjmpnpflmdpdkaa
