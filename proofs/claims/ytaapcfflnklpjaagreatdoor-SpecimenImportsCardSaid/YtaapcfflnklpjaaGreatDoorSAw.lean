/- The document's examples. -/
import Derived.Test.YtaapcfflnklpjaaGreatDoorSP
import Derived.Test.YtaapcfflnklpjaaGreatDoorSQ
import Derived.Test.YtaapcfflnklpjaaGreatDoorSW
import Derived.Test.YtaapcfflnklpjaaGreatDoorSN
import Derived.Test.YtaapcfflnklpjaaGreatDoorSF
import Derived.Test.YtaapcfflnklpjaaGreatDoorSC
import Derived.Test.YtaapcfflnklpjaaGreatDoorSD
namespace Go.Proofs.YtaapcfflnklpjaaGreatDoor
open Go Go.RowKit Go.Lib
def exS : Spc := ⟨17, 3, 12, 2, 1, 6, 16820⟩
theorem ex_sp : IsSp (⟨#[49, 55, 32, 79, 51, 98, 47, 82, 49, 50, 97, 32, 54, 104, 32, 49, 54, 46, 56, 50, 48]⟩ : ByteArray).data.toList exS := ⟨by decide +kernel, by decide +kernel⟩
theorem ex_par : PR (⟨#[49, 55, 32, 79, 51, 98, 47, 82, 49, 50, 97, 32, 54, 104, 32, 49, 54, 46, 56, 50, 48]⟩ : ByteArray).data.toList exS 0 := .inl ⟨rfl, ex_sp⟩
theorem ex_bad : PR (⟨#[49, 55, 32, 79, 51, 47, 82, 49, 50, 97, 32, 54, 104, 32, 49, 54, 46, 56, 50, 48]⟩ : ByteArray).data.toList Spc.zero 3 := .inr ⟨rfl, rfl, fun y hy => by
  obtain ⟨a, b, c, d, e1, _, _, e3, _⟩ := hy.parts
  rw [show Lib.splitK [32] 0 3 (⟨#[49, 55, 32, 79, 51, 47, 82, 49, 50, 97, 32, 54, 104, 32, 49, 54, 46, 56, 50, 48]⟩ : ByteArray).data.toList = [[49, 55], [79, 51, 47, 82, 49, 50, 97], [54, 104], [49, 54, 46, 56, 50, 48]] by decide +kernel] at e1
  injection e1 with _ e1
  injection e1 with e1 _
  subst e1
  rw [show ppR [79, 51, 47, 82, 49, 50, 97] = ((0, 3, 0), (1, 12, 1), 0) by decide +kernel] at e3
  simp only [Prod.mk.injEq] at e3
  have h1 := (vS_true.1 hy.1).2.2.2.1.1
  have h2 := e3.1.2.2
  omega⟩
theorem ex_chk : chk [exS] = 0 := by decide +kernel
theorem ex_chk2 : chk [exS, exS] = 8 := by decide +kernel
theorem ex_text : spT exS = ⟨#[49, 55, 32, 79, 51, 98, 47, 82, 49, 50, 97, 32, 54, 104, 32, 49, 54, 46, 56, 50, 48]⟩ := by rw [spT_true ex_sp.1, ex_sp.2, strB_data]
theorem ex_valid : vS exS = true := ex_sp.1
theorem ex_str : Str [exS] := ⟨fun y hy => (by cases hy), trivial⟩
theorem ex_srt {zs : List Spc} (h : Srt [exS] zs) : zs = [exS] := h.uniq (srt_self ex_str)
theorem ex_uE : uE [exS] [exS] = 0 := by decide +kernel
theorem ex_union {zs : List Spc} {e : Int} (h : UR [exS] [exS] zs e) : zs = [exS] ∧ e = 0 := by
  have he : e = 0 := h.1.trans ex_uE
  exact ⟨ex_srt (by have := h.2.1 he; rwa [show both [exS] [exS] = [exS] by decide +kernel] at this), he⟩
theorem ex_die : dB 1 12 = true := by decide +kernel
theorem ex_of : ofS [exS] 1 12 = [17] := by decide +kernel
theorem ex_exp {t : ByteArray} (h : ER9 [exS] t (chk [exS])) : t = ⟨#[49, 55, 32, 79, 51, 98, 47, 82, 49, 50, 97, 32, 54, 104, 32, 49, 54, 46, 56, 50, 48, 10]⟩ := by
  obtain ⟨zs, hz, ht⟩ := h.2.1 ex_chk
  rw [ht, ex_srt hz]
  decide +kernel
theorem ex_imp {xs : List Spc} {e : Int} (h : IR9 (⟨#[49, 55, 32, 79, 51, 98, 47, 82, 49, 50, 97, 32, 54, 104, 32, 49, 54, 46, 56, 50, 48, 10]⟩ : ByteArray).data.toList xs e) : xs = [exS] ∧ e = 0 :=
  h.uniq (.inl ⟨by decide +kernel, rfl, ex_chk, ex_str, by decide +kernel⟩)
theorem ex_find : FR [exS] 17 exS true := .inr ⟨by decide +kernel, rfl⟩
set_option maxHeartbeats 1000000 in
theorem example_any (w : World) : Calls Tryz.prog 36 #[] w fun e w' => e = .returned (.agg #[.int .i64 17, .int .i64 3, .int .i64 12, .int .i64 2, .int .i64 1, .int .i64 6, .int .i64 16820]) ∧ Below w.heap.size w w' := by
  go_enter Tryz.func36, Tryz.ntmps36
  go_wp2_with fail
  refine bodyPost_ret (v := .agg #[.int .i64 17, .int .i64 3, .int .i64 12, .int .i64 2, .int .i64 1, .int .i64 6, .int .i64 16820]) (by simp [results, Tryz.results36, go_sem]) rfl ?_
  exact ⟨rfl, (Below.refl _ _).alloc (Nat.le_refl _) _⟩
theorem ex_cells {w : World} {g : Nat} {t : TypeId} (h : Box w g #[.int .i64 17, .int .i64 3, .int .i64 12, .int .i64 2, .int .i64 1, .int .i64 6, .int .i64 16820] t) : w.cell? ⟨g, 0, none⟩ = some (.int .i64 17) ∧ w.cell? ⟨g, 1, none⟩ = some (.int .i64 3) ∧ w.cell? ⟨g, 2, none⟩ = some (.int .i64 12) ∧ w.cell? ⟨g, 3, none⟩ = some (.int .i64 2) ∧ w.cell? ⟨g, 4, none⟩ = some (.int .i64 1) ∧ w.cell? ⟨g, 5, none⟩ = some (.int .i64 6) ∧ w.cell? ⟨g, 6, none⟩ = some (.int .i64 16820) := ⟨h.at_ 0, h.at_ 1, h.at_ 2, h.at_ 3, h.at_ 4, h.at_ 5, h.at_ 6⟩
theorem ex_sl {w : World} {g : Nat} {t : TypeId} (h : Box w g #[.int .i64 17, .int .i64 3, .int .i64 12, .int .i64 2, .int .i64 1, .int .i64 6, .int .i64 16820] t) : SL w (some ⟨g, 0, none⟩) 1 [exS] := sl_box (X := exS) h
theorem ex_sl2 {w : World} {g : Nat} {t : TypeId} (h : Box w g #[.int .i64 17, .int .i64 3, .int .i64 12, .int .i64 2, .int .i64 1, .int .i64 6, .int .i64 16820, .int .i64 17, .int .i64 3, .int .i64 12, .int .i64 2, .int .i64 1, .int .i64 6, .int .i64 16820] t) : SL w (some ⟨g, 0, none⟩) 2 [exS, exS] :=
  ⟨rfl, fun _ => ⟨g, 0, rfl, h.lt, fun j u hu => by
    rw [Nat.zero_add, h.at_ j]
    have : flatS [exS, exS] = encS exS ++ encS exS := by rw [flatS_cons, flatS_cons, flatS_nil, List.append_nil]
    rw [this] at hu
    simpa [encS, exS] using hu⟩⟩
theorem ex_is {w : World} {g : Nat} {t : TypeId} (h : Box w g #[.int .i64 17] t) : IS w (some ⟨g, 0, none⟩) 1 [17] :=
  ⟨rfl, fun _ => ⟨g, 0, rfl, h.lt, fun j x hx => by
    rw [Nat.zero_add, h.at_ j]
    match j, hx with
    | 0, hx => simp at hx; subst hx; rfl
    | j + 1, hx => simp at hx⟩⟩
set_option maxHeartbeats 16000000 in
set_option maxRecDepth 100000 in
theorem awake_yes (w : World) (hT : Lw w) : Calls Tryz.prog 12 #[] w fun e w' => e = .returned (.bool true) ∧ Below w.heap.size w w' := by
  have HT := hide hT
  clear hT
  have B := Below.refl w.heap.size w
  go_enter Tryz.func12, Tryz.ntmps12
  go_wp2_with fail
  refine (example_any _).mono ?_
  rintro e w1 ⟨rfl, hb⟩
  replace B := nxt B hb
  clear hb
  go_wp2_with fail
  generalize hW : World.alloc w1 _ = W1
  obtain ⟨hb, b1, -⟩ := boxC hW
  clear hW
  replace B := nxt B hb
  clear hb
  refine (parse9_any ⟨#[49, 55, 32, 79, 51, 98, 47, 82, 49, 50, 97, 32, 54, 104, 32, 49, 54, 46, 56, 50, 48]⟩ _ (HT.out.below B) (by decide) ⟨17, 3, 12, 2, 1, 6, 16820⟩ 0 ex_par).mono ?_
  rintro e w2 ⟨rfl, hb⟩
  replace B := nxt B hb
  replace b1 := b1.below' hb
  clear hb
  go_wp2_with fail
  generalize hW : World.alloc w2 _ = W2
  obtain ⟨hb, b2, -⟩ := boxC hW
  clear hW
  replace B := nxt B hb
  replace b1 := b1.below' hb
  clear hb
  refine (parse9_any ⟨#[49, 55, 32, 79, 51, 47, 82, 49, 50, 97, 32, 54, 104, 32, 49, 54, 46, 56, 50, 48]⟩ _ (HT.out.below B) (by decide) ⟨0, 0, 0, 0, 0, 0, 0⟩ 3 ex_bad).mono ?_
  rintro e w3 ⟨rfl, hb⟩
  replace B := nxt B hb
  replace b1 := b1.below' hb
  replace b2 := b2.below' hb
  clear hb
  obtain ⟨k0, k1, k2, k3, k4, k5, k6⟩ := ex_cells (b1.alloc (.cells #[.int .i64 0, .int .i64 0, .int .i64 0, .int .i64 0, .int .i64 0, .int .i64 0, .int .i64 0] 23))
  have lb := b1.lt
  go_wp2_with fail
  clear k0 k1 k2 k3 k4 k5 k6 lb
  generalize hW : World.alloc (World.alloc w3 _) _ = W3
  obtain ⟨hb, -, b6⟩ := boxT4 hW
  clear hW
  replace B := nxt B hb
  replace b1 := b1.below' hb
  replace b2 := b2.below' hb
  clear hb
  have s6 := ex_sl b6
  refine (union_any _ 1 1 [exS] _ 1 1 [exS] _ s6 s6).mono ?_
  rintro e w4 ⟨A4, n4, c4, zs4, rfl, s4, hu, hb⟩
  replace B := nxt B hb
  replace b1 := b1.below' hb
  replace b2 := b2.below' hb
  replace b6 := b6.below' hb
  replace s6 := s6.keep hb
  clear hb
  obtain ⟨rfl, he⟩ := ex_union hu
  rw [he]
  clear hu he
  go_wp2_with fail
  refine (of_any _ 1 1 [exS] 1 12 _ s6).mono ?_
  rintro e w5 ⟨A5, n5, c5, ids, rfl, i5, ho, -, hb⟩
  replace B := nxt B hb
  replace b1 := b1.below' hb
  replace b2 := b2.below' hb
  replace b6 := b6.below' hb
  replace s6 := s6.keep hb
  replace s4 := s4.keep hb
  clear hb
  obtain ⟨zs5, hz5, rfl⟩ := ho ⟨ex_chk, ex_die⟩
  obtain rfl := ex_srt hz5
  rw [ex_of] at i5
  rw [if_pos ex_chk, ex_die]
  clear ho hz5
  go_wp2_with fail
  refine (export_any _ 1 1 [exS] _ (HT.out.below B) s6).mono ?_
  rintro e w6 ⟨t6, rfl, he, hb⟩
  replace B := nxt B hb
  replace b1 := b1.below' hb
  replace b2 := b2.below' hb
  replace b6 := b6.below' hb
  replace s6 := s6.keep hb
  replace s4 := s4.keep hb
  replace i5 := i5.keep hb
  clear hb
  rw [ex_chk]
  obtain rfl := ex_exp he
  clear he
  go_wp2_with fail
  refine (find_any _ 1 1 [exS] 17 _ s6 (by unfold maxLen; omega) exS true ex_find).mono ?_
  rintro e w7 ⟨rfl, hb⟩
  replace B := nxt B hb
  replace b1 := b1.below' hb
  replace b2 := b2.below' hb
  replace b6 := b6.below' hb
  replace s6 := s6.keep hb
  replace s4 := s4.keep hb
  replace i5 := i5.keep hb
  clear hb
  unfold exS
  go_wp2_with fail
  generalize hW : World.alloc w7 _ = W7
  obtain ⟨hb, b13, -⟩ := boxC hW
  clear hW
  replace B := nxt B hb
  replace b1 := b1.below' hb
  replace b2 := b2.below' hb
  replace b6 := b6.below' hb
  replace s6 := s6.keep hb
  replace s4 := s4.keep hb
  replace i5 := i5.keep hb
  clear hb
  refine (import_any ⟨#[49, 55, 32, 79, 51, 98, 47, 82, 49, 50, 97, 32, 54, 104, 32, 49, 54, 46, 56, 50, 48, 10]⟩ _ (HT.out.below B) (by decide)).mono ?_
  rintro e w8 ⟨A8, n8, c8, zs8, er8, rfl, s8, -, hi, hb⟩
  replace B := nxt B hb
  replace b1 := b1.below' hb
  replace b2 := b2.below' hb
  replace b6 := b6.below' hb
  replace s6 := s6.keep hb
  replace s4 := s4.keep hb
  replace i5 := i5.keep hb
  replace b13 := b13.below' hb
  clear hb
  obtain ⟨rfl, rfl⟩ := ex_imp hi
  clear hi
  have hn4 := s4.1
  have hn8 := s8.1
  have hn5 := i5.1
  simp only [List.length_cons, List.length_nil, Nat.zero_add] at hn4 hn8 hn5
  subst hn4
  subst hn8
  subst hn5
  obtain ⟨k0, k1, k2, k3, k4, k5, k6⟩ := ex_cells b1
  go_wp2_with fail
  refine (text9_any ⟨17, 3, 12, 2, 1, 6, 16820⟩ _ (HT.out.below B) ⟨#[49, 55, 32, 79, 51, 98, 47, 82, 49, 50, 97, 32, 54, 104, 32, 49, 54, 46, 56, 50, 48]⟩ ex_text).mono ?_
  rintro e w9 ⟨rfl, hb⟩
  clear k0 k1 k2 k3 k4 k5 k6
  replace B := nxt B hb
  replace b1 := b1.below' hb
  replace b2 := b2.below' hb
  replace b6 := b6.below' hb
  replace s6 := s6.keep hb
  replace s4 := s4.keep hb
  replace i5 := i5.keep hb
  replace b13 := b13.below' hb
  replace s8 := s8.keep hb
  clear hb
  have q0 : ∀ w, (Op.equalIn 10000 23 (.agg #[.int .i64 17, .int .i64 3, .int .i64 12, .int .i64 2, .int .i64 1, .int .i64 6, .int .i64 16820]) (.agg #[.int .i64 17, .int .i64 3, .int .i64 12, .int .i64 2, .int .i64 1, .int .i64 6, .int .i64 16820])).run Tryz.prog w = .ok true w := fun w => eqS_run ⟨17, 3, 12, 2, 1, 6, 16820⟩ ⟨17, 3, 12, 2, 1, 6, 16820⟩ w true (by decide)
  obtain ⟨k0, k1, k2, k3, k4, k5, k6⟩ := ex_cells b1
  obtain ⟨m0, m1, m2, m3, m4, m5, m6⟩ := ex_cells b2
  go_wp2_with fail
  clear k0 k1 k2 k3 k4 k5 k6 m0 m1 m2 m3 m4 m5 m6
  generalize hW : World.alloc w9 _ = W9
  obtain ⟨hb, b9, -⟩ := boxC hW
  clear hW
  replace B := nxt B hb
  replace b1 := b1.below' hb
  replace b2 := b2.below' hb
  replace b6 := b6.below' hb
  replace s6 := s6.keep hb
  replace s4 := s4.keep hb
  replace i5 := i5.keep hb
  replace b13 := b13.below' hb
  replace s8 := s8.keep hb
  clear hb
  refine (check_any _ 2 2 [exS, exS] _ (ex_sl2 b9) 8 ex_chk2).mono ?_
  rintro e w10 ⟨rfl, hb⟩
  replace B := nxt B hb
  replace b1 := b1.below' hb
  replace b2 := b2.below' hb
  replace b6 := b6.below' hb
  replace s6 := s6.keep hb
  replace s4 := s4.keep hb
  replace i5 := i5.keep hb
  replace b13 := b13.below' hb
  replace s8 := s8.keep hb
  clear hb
  go_wp2_with fail
  refine (sames_any A4 _ c4 [exS] _ 1 1 [exS] _ s4 s6 (by decide) true (by decide)).mono ?_
  rintro e w11 ⟨rfl, hb⟩
  replace B := nxt B hb
  replace b1 := b1.below' hb
  replace b2 := b2.below' hb
  replace b6 := b6.below' hb
  replace s6 := s6.keep hb
  replace s4 := s4.keep hb
  replace i5 := i5.keep hb
  replace b13 := b13.below' hb
  replace s8 := s8.keep hb
  clear hb
  go_wp2_with fail
  generalize hW : World.alloc w11 _ = W11
  obtain ⟨hb, b12, -⟩ := boxC hW
  clear hW
  replace B := nxt B hb
  replace b1 := b1.below' hb
  replace b2 := b2.below' hb
  replace b6 := b6.below' hb
  replace s6 := s6.keep hb
  replace s4 := s4.keep hb
  replace i5 := i5.keep hb
  replace b13 := b13.below' hb
  replace s8 := s8.keep hb
  clear hb
  refine (ints_any A5 _ c5 [17] _ 1 1 [17] _ i5 (ex_is b12) (by decide) true (by decide)).mono ?_
  rintro e w12 ⟨rfl, hb⟩
  replace B := nxt B hb
  replace b1 := b1.below' hb
  replace b2 := b2.below' hb
  replace b6 := b6.below' hb
  replace s6 := s6.keep hb
  replace s4 := s4.keep hb
  replace i5 := i5.keep hb
  replace b13 := b13.below' hb
  replace s8 := s8.keep hb
  clear hb
  obtain ⟨k0, k1, k2, k3, k4, k5, k6⟩ := ex_cells b1
  obtain ⟨m0, m1, m2, m3, m4, m5, m6⟩ := ex_cells b13
  go_wp2_with fail
  clear k0 k1 k2 k3 k4 k5 k6 m0 m1 m2 m3 m4 m5 m6
  refine (sames_any A8 _ c8 [exS] _ 1 1 [exS] _ s8 s6 (by decide) true (by decide)).mono ?_
  rintro e w13 ⟨rfl, hb⟩
  replace B := nxt B hb
  replace b1 := b1.below' hb
  replace b2 := b2.below' hb
  replace b6 := b6.below' hb
  replace s6 := s6.keep hb
  replace s4 := s4.keep hb
  replace i5 := i5.keep hb
  replace b13 := b13.below' hb
  replace s8 := s8.keep hb
  clear hb
  obtain ⟨k0, k1, k2, k3, k4, k5, k6⟩ := ex_cells b1
  go_wp2_with fail
  clear k0 k1 k2 k3 k4 k5 k6
  refine (valid9_any ⟨17, 3, 12, 2, 1, 6, 16820⟩ _ true ex_valid).mono ?_
  rintro e w14 ⟨rfl, hb⟩
  go_wp2_with fail
  go_ret
  exact ⟨rfl, nxt B hb⟩
end Go.Proofs.YtaapcfflnklpjaaGreatDoor
