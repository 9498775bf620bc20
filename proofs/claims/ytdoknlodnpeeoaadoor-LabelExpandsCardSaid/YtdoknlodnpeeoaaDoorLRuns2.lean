/- Runs. -/
import Derived.Test.YtdoknlodnpeeoaaDoorSRow
import Derived.Deep.RegionLaw
import Derived.Lib.Join
namespace Go.Proofs.YtdoknlodnpeeoaaDoor
open Go Go.RowKit Go.Lib

/-- the texts of the groups -/
def runsG : Nat → List Int → List ByteArray
  | 0, _ => []
  | _ + 1, [] => []
  | f + 1, x :: l => strB (groupL x.toNat (x.toNat + consL x l)) :: runsG f (l.drop (consL x l))
theorem runsG_nil (f : Nat) : runsG f [] = [] := by cases f <;> rfl
theorem consL_last : ∀ (x : Int) (l : List Int), (x :: l)[consL x l]? = some (x + (consL x l : Nat))
  | x, [] => by simp [consL]
  | x, y :: l => by
    unfold consL
    split
    · rename_i h
      have ih := consL_last y l
      rw [List.getElem?_cons_succ, ih]
      congr 1
      omega
    · simp
theorem setB_len (n : Int) : ∀ (xs : List Int) (y : Int), setB n y xs = true → xs = [] ∨ y + xs.length ≤ n
  | [], _, _ => Or.inl rfl
  | x :: xs, y, h => by
    right
    unfold setB at h
    split at h
    · cases h
    · split at h
      · cases h
      · rcases setB_len n xs (x + 1) h with h1 | h1
        · subst h1; simp; omega
        · simp only [List.length_cons]; omega
theorem setB_in (n : Int) : ∀ (xs : List Int) (y : Int), setB n y xs = true → ∀ x ∈ xs, y ≤ x ∧ x < n
  | [], _, _ => fun x hx => by cases hx
  | x :: xs, y, h => fun z hz => by
    unfold setB at h
    split at h
    · cases h
    · split at h
      · cases h
      · rcases List.mem_cons.1 hz with rfl | hz
        · omega
        · have := setB_in n xs (x + 1) h z hz
          omega
def slen : Value → Nat
  | .slice _ n _ => n
  | _ => 0
theorem store_s {w w7 : World} {B : Nat} (hB : B ≤ w.heap.size) (E : Below w.heap.size w w7) (S : ByteArray) (t : TypeId) :
    Below w.heap.size w (w7.alloc (.cells #[.string S] t)) ∧ (w7.alloc (.cells #[.string S] t)).cell? ⟨w7.heap.size, 0, none⟩ = some (.string S) ∧ B ≤ (w7.alloc (.cells #[.string S] t)).heap.size :=
  ⟨E.alloc E.size _, (Box.new w7 #[.string S] t).cell, by have := E.size; simp; omega⟩
theorem IL.drop_ {w : World} {b o n k : Nat} {xs : List Int} (h : IL w (some ⟨b, o, none⟩) n xs) (hk : k ≤ n) : IL w (some ⟨b, o + k, none⟩) (n - k) (xs.drop k) := by
  refine ⟨by rw [List.length_drop, h.1], fun hn => ?_⟩
  obtain ⟨b2, o2, e, hc⟩ := h.2 (by omega)
  injection e with e; injection e with e1 e2
  subst e1; subst e2
  refine ⟨b, o + k, rfl, fun j x hx => ?_⟩
  rw [List.getElem?_drop] at hx
  rw [show o + k + j = o + (k + j) by omega]
  exact hc _ x hx
theorem str_info : (Tryd.prog.info? 9).map (fun i => (i.zero, i.size, i.bytes)) = some (some (.string ⟨#[]⟩), 1, 16) := by kernel_rfl
def joinT (us : List ByteArray) : ByteArray := ⟨(Lib.join (us.map (·.data.toList)) [44, 32]).toArray⟩
set_option maxHeartbeats 8000000 in
set_option maxRecDepth 100000 in
theorem runs_ok (A : Option Addr) (m c : Nat) (xs : List Int) (w : World) (hx : IL w A m xs) (hmc : m ≤ c) (hc : c ≤ maxLen) (hT : Lw w) (hr : setB 1000 1 xs = true) (S : ByteArray)
    (hJ : ∀ (W : World) (As : Option Addr) (q cs : Nat), SR W w.heap.size As q cs (runsG m xs) → Calls Tryd.prog 43 #[.slice As q cs, .string ⟨#[44, 32]⟩] W fun e w' => e = .returned (.string S) ∧ Below W.heap.size W w') :
    Calls Tryd.prog 20 #[.slice A m c] w fun e w' => e = .returned (.tuple #[.string S, .int .i64 0]) ∧ Below w.heap.size w w' := by
  have hin := setB_in 1000 xs 1 hr
  have hlen : m ≤ 999 := by
    rcases setB_len 1000 xs 1 hr with h | h
    · have := hx.len; rw [h] at this; simp at this; omega
    · have := hx.len; omega
  have HX := hide hx
  have HR := hide hr
  have HT := hide hT
  have HJ := hide hJ
  have HIN := hide hin
  have HL := hide hlen
  have HC := hide (show m ≤ c ∧ c ≤ maxLen from ⟨hmc, hc⟩)
  clear hx hr hT hJ hin hlen hmc hc
  go_enter Tryd.func20, Tryd.ntmps20
  go_wp2_with fail
  refine (isasc_any A m c xs w HX.out (by have := HC.out; omega) true HR.out).mono ?_
  rintro e w1 ⟨rfl, rfl⟩
  go_wp2_with fail
  go_loopw [0, 4] (fun v0 v4 wr => ∃ (Al : Option Addr) (n c' : Nat) (ys : List Int) (As : Option Addr) (q cs : Nat) (us : List ByteArray) (f : Nat), v0 = .slice Al n c' ∧ v4 = .slice As q cs ∧ IL w Al n ys ∧ n ≤ c' ∧ c' ≤ maxLen ∧ q + n ≤ 999 ∧ SR wr w.heap.size As q cs us ∧ (∀ x ∈ ys, 1 ≤ x ∧ x < 1000) ∧ n ≤ f ∧ Hid (us ++ runsG f ys = runsG m xs) ∧ Below w.heap.size w wr) (fun v0 _ _ => slen v0)
  case atStart => exact ⟨A, m, c, xs, none, 0, 0, [], m, rfl, rfl, HX.out, HC.out.1, HC.out.2, by have := HL.out; omega, SR.nil_, HIN.out, Nat.le_refl _, hide rfl, Below.refl _ _⟩
  case round =>
    obtain ⟨Al, n, c', ys, As, q, cs, us, f, rfl, rfl, hl, hnc, hcm, hqn, hs, hin, hnf, HG, hB⟩ := hrel
    by_cases hlt : 0 < n
    · obtain ⟨x, l, rfl⟩ : ∃ x l, ys = x :: l := by
        rcases ys with _ | ⟨x, l⟩
        · have := hl.len; simp at this; omega
        · exact ⟨x, l, rfl⟩
      obtain ⟨f, rfl⟩ : ∃ g, f = g + 1 := ⟨f - 1, by omega⟩
      have hxl := hin x List.mem_cons_self
      obtain ⟨a, rfl⟩ : ∃ a : Nat, x = (a : Int) := ⟨x.toNat, by omega⟩
      obtain ⟨K, hK⟩ : ∃ K, consL (a : Int) l = K := ⟨_, rfl⟩
      have hlast := consL_last (a : Int) l
      have hle := consL_le (a : Int) l
      have hll := hl.len
      simp only [List.length_cons] at hll
      rw [hK] at hlast hle
      obtain ⟨b, hb⟩ : ∃ b, a + K = b := ⟨_, rfl⟩
      have hlast' : ((a : Int) :: l)[K]? = some (b : Int) := by rw [hlast, ← hb]; rfl
      have hbin := hin (b : Int) (List.mem_of_getElem? hlast')
      obtain ⟨b0, o, x1, rfl, hx1, k0⟩ := hl.at_ hlt
      obtain rfl : x1 = (a : Int) := by simpa using hx1.symm
      obtain ⟨b2, o2, x2, he, hx2, k2⟩ := hl.at_ (show K < n by omega)
      obtain ⟨rfl, rfl⟩ : b0 = b2 ∧ o = o2 := by injection he with he; injection he with h1 h2; exact ⟨h1, h2⟩
      obtain rfl : x2 = (b : Int) := by rw [hlast'] at hx2; exact (Option.some.inj hx2).symm
      rw [Nat.add_zero] at k0
      have HBD := hide (fun (j : Nat) (y : Int) (h : ((a : Int) :: l)[j]? = some y) => (show 1 ≤ y ∧ y ≤ 999 from by have := hin y (List.mem_of_getElem? h); omega))
      have HGS := hide (show strB (groupL a b) :: runsG f (l.drop K) = runsG (f + 1) ((a : Int) :: l) from by
        show _ = strB (groupL (a : Int).toNat ((a : Int).toNat + consL (a : Int) l)) :: runsG f (l.drop (consL (a : Int) l))
        rw [hK, Int.toNat_natCast, hb])
      obtain ⟨P, hP⟩ : ∃ P, strB (groupL a b) = P := ⟨_, rfl⟩
      have HP := hide hP
      have HG2 := hide (show (us ++ [P]) ++ runsG f (((a : Int) :: l).drop (K + 1)) = runsG m xs from by
        rw [← HG.out, ← HGS.out, hP, List.append_assoc]; rfl)
      have HKK := hide hK
      have HLL := hide hl
      have HDR := hide (show IL w (if c' = K + 1 then some ⟨b0, o, none⟩ else some ⟨b0, o + (K + 1), none⟩) (n - (K + 1)) (((a : Int) :: l).drop (K + 1)) from by
        have hd := hl.drop_ (show K + 1 ≤ n by omega)
        split
        · exact ⟨hd.1, fun h => by omega⟩
        · exact hd)
      have HIN2 := hide (fun (y : Int) (h : y ∈ ((a : Int) :: l).drop (K + 1)) => hin y (List.mem_of_mem_drop h))
      obtain ⟨ha1, ha2⟩ := hxl
      obtain ⟨hb1, hb2⟩ := hbin
      have HK1 := hide (show K + 1 ≤ n from by omega)
      clear hK hlast hlast' hx1 hx2 he hin HGS hP hll hle hl
      have KF : Hid (∀ w', Below w.heap.size w w' → w'.cell? ⟨b0, o, none⟩ = some (.int .i64 (a : Int)) ∧ w'.cell? ⟨b0, o + K, none⟩ = some (.int .i64 (b : Int))) := fun w' h => ⟨(h.cell (p := ⟨b0, o, none⟩) (World.block_lt_of_cell? w _ k0)).trans k0, (h.cell (p := ⟨b0, o + K, none⟩) (World.block_lt_of_cell? w _ k2)).trans k2⟩
      clear k0 k2
      go_wp2_with fail
      refine (glen_any _ n c' (a : Int) l _ (HLL.out.below hB) (by omega) HBD.out (K + 1) (by rw [HKK.out])).mono ?_
      rintro e w5 ⟨rfl, hb5⟩
      have hB := hB.trans (hb5.mono hB.size)
      have hs := hs.below hb5
      clear hb5
      have P0 : Below w5.heap.size w5 w5.drew := (Below.refl _ _).drew
      have hsz := hB.size
      obtain ⟨k0, k2⟩ := KF.out _ (hB.trans (P0.mono hB.size))
      have hk1 := HK1.out
      have hw3 : IntKind.i64.wrap (K : Int) = (K : Int) := IntWalk.i64_in _ (by omega)
      have he1 : ((K + 1 : Nat) : Int) - 1 = (K : Int) := by omega
      have i0 : (0 : Int) < (n : Int) := by omega
      have i1 : (0 : Int) ≤ (K : Int) := by omega
      have i2 : (K : Int) < (n : Int) := by omega
      have i3 : K < n := by omega
      go_wp2_with fail
      go_region_law (first
        | (go_simp; go_at_call 42; (with_reducible refine (group_any a b _ (HT.out.below (hB.trans (P0.mono hB.size))) (by omega) (by omega) P HP.out).mono ?_); rintro e w7 ⟨rfl, hb7⟩; have E7 := P0.trans (hb7.mono P0.size); obtain ⟨y0, y1⟩ := KF.out _ (hB.trans (E7.mono hB.size)); obtain ⟨F8, cel8, s8⟩ := store_s hsz E7 P 9; have row8 := hs.below F8)
        | (refine step_append_sr rfl _ _ 58 rfl 16 Tryd.underlying58 str_info w.heap.size _ q cs _ rfl row8 w7.heap.size 0 1 P rfl cel8 (by omega) (q + 1) rfl (by omega) s8 ?_; intro A8 c8 w8 hr8 hG8))
      all_goals
        have B8 := (hB.trans (F8.mono hsz)).trans hG8.1
        have HR8 := hide hr8
        clear hr8 hG8 row8 cel8 s8 F8 E7 P0 hb7 y0 y1 k0 k2 hs hB hsz
        go_wp2_with fail
        go_roundw
        case measure => simp [slen]; omega
        case rel => exact ⟨_, n - (K + 1), c' - (K + 1), _, A8, q + 1, c8, _, f, rfl, rfl, HDR.out, by omega, by omega, by omega, HR8.out, HIN2.out, by omega, HG2, B8⟩
    · have hn0 : n = 0 := by omega
      subst hn0
      obtain rfl : ys = [] := by have := hl.len; exact List.eq_nil_of_length_eq_zero this
      have HUS := hide (show us = runsG m xs from by rw [← HG.out, runsG_nil, List.append_nil])
      have HRS := hide (show SR wr w.heap.size As q cs (runsG m xs) from by rw [← HUS.out]; exact hs)
      clear hl hs hin HG
      go_wp2_with fail
      refine (HJ.out _ As q cs HRS.out).mono ?_
      rintro e w5 ⟨rfl, hb5⟩
      go_wp2_with fail
      refine bodyPost_ret (v := .tuple #[.string S, .int .i64 0]) (by simp [results, Tryd.results20, go_sem]) rfl ?_
      exact ⟨rfl, hB.trans (hb5.mono hB.size)⟩
end Go.Proofs.YtdoknlodnpeeoaaDoor
