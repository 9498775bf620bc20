/- The body of FrameChanges. -/
import Derived.Test.YtledmceoeambiaaFAwk
namespace Go.Proofs.Ytledmceoeambiaa
open Go Go.RowKit FM

theorem RB.head {w : World} {base : Nat} {A : Option Addr} {n c : Nat} {xs : List Nat} (h : RB w base A n c xs) (hn : 0 < n) : ∃ g, A = some ⟨g, 0, none⟩ ∧ base ≤ g ∧ n ≤ c ∧ c ≤ maxLen ∧ (∀ j x : Nat, xs[j]? = some x → w.cell? ⟨g, j, none⟩ = some (.int .u8 (x : Int))) ∧ (∀ j, w.frozen? ⟨g, j, none⟩ = false) ∧ (∀ j x : Nat, RB (w.setCell ⟨g, j, none⟩ (.int .u8 (x : Int))) base (some ⟨g, 0, none⟩) n c (xs.set j x)) := by
  rcases h.2 with ⟨_, h0⟩ | ⟨g, cap, cur, hv, hb, hg, hnc, hcm, hcs, htk⟩
  · omega
  · injection hv with e1 e2 e3
    subst e1
    subst e3
    refine ⟨g, rfl, hb, hnc, hcm, fun j x hj => ?_, fun j => World.ownsRow.frozenAt h j, fun j x => ?_⟩
    · have h1 := Row.rl h
      obtain ⟨b', o', e, hc⟩ := h1.2 hn
      injection e with e; injection e with e1 e2; subst e1; subst e2
      have := hc j x hj
      rwa [Nat.zero_add] at this
    · have h1 := (World.ownsRow.stored h j (.int .u8 (x : Int))).1
      have e : (cells .u8 xs).set j (Value.int .u8 (x : Int)) = cells .u8 (xs.set j x) := by simp [cells, List.map_set]
      rw [e] at h1
      exact h1
set_option maxRecDepth 100000 in
set_option maxHeartbeats 16000000 in
theorem changes_no1 (kd : Nat) (A : Option Addr) (n c : Nat) (xs : List Nat) (u : Nat) (w : World) (_hk : kd < 256) (_hx : BR w A n xs) (_hxc : n ≤ c) (_hxm : c ≤ maxLen) (_hu : u < 4294967296) (_hf : ¬ n ≤ 8192) :
    Calls Try.prog 7 #[.int .u8 (kd : Int), .slice A n c, .int .u32 (u : Int)] w fun e w' => e = .returned (.bool true) ∧ Below w.heap.size w w' := by
  have HB := hide (Below.refl w.heap.size w)
  unfold maxLen at _hxm
  have d1 : decide ((8192 : Int) < (n : Int)) = true := decide_eq_true (by omega)
  clear _hx
  go_enter Try.func7, Try.ntmps7
  go_wp2_with fail
  (with_reducible refine (awake_yes _).mono ?_)
  rintro e w1 ⟨rfl, hb⟩
  replace HB := hide (HB.out.trans (hb.mono HB.out.size))
  clear hb
  go_wp2_with fail
  (with_reducible refine (awake_yes _).mono ?_)
  rintro e w2 ⟨rfl, hb⟩
  replace HB := hide (HB.out.trans (hb.mono HB.out.size))
  clear hb
  go_wp2_with fail
  go_ret
  exact ⟨rfl, HB.out⟩
set_option maxRecDepth 100000 in
set_option maxHeartbeats 16000000 in
theorem changes_no2 (kd : Nat) (A : Option Addr) (n c : Nat) (xs : List Nat) (u : Nat) (w : World) (_hk : kd < 256) (_hx : BR w A n xs) (_hxc : n ≤ c) (_hxm : c ≤ maxLen) (_hu : u < 4294967296) (_hf : n ≤ 8192) (_h0 : u % 256 = 0) :
    Calls Try.prog 7 #[.int .u8 (kd : Int), .slice A n c, .int .u32 (u : Int)] w fun e w' => e = .returned (.bool true) ∧ Below w.heap.size w w' := by
  have HB := hide (Below.refl w.heap.size w)
  unfold maxLen at _hxm
  have d1 : decide ((8192 : Int) < (n : Int)) = false := decide_eq_false (by omega)
  have e0 : (u : Int) % 256 = 0 := by omega
  clear _hx _h0
  go_enter Try.func7, Try.ntmps7
  go_wp2_with fail
  (with_reducible refine (awake_yes _).mono ?_)
  rintro e w1 ⟨rfl, hb⟩
  replace HB := hide (HB.out.trans (hb.mono HB.out.size))
  clear hb
  go_wp2_with fail
  (with_reducible refine (awake_yes _).mono ?_)
  rintro e w2 ⟨rfl, hb⟩
  replace HB := hide (HB.out.trans (hb.mono HB.out.size))
  clear hb
  go_wp2_with fail
  go_ret
  exact ⟨rfl, HB.out⟩
set_option maxRecDepth 100000 in
set_option maxHeartbeats 16000000 in
theorem changes_0 (kd : Nat) (A : Option Addr) (n c : Nat) (xs : List Nat) (u : Nat) (w : World) (hk : kd < 256) (hx : BR w A n xs) (_hxc : n ≤ c) (_hxm : c ≤ maxLen) (_hu : u < 4294967296) (hg : n ≤ 8192) (_h0 : ¬ u % 256 = 0) (hj : u / 256 % (n + 6) = 0) :
    Calls Try.prog 7 #[.int .u8 (kd : Int), .slice A n c, .int .u32 (u : Int)] w fun e w' => e = .returned (.bool true) ∧ Below w.heap.size w w' := by
  have HB := hide (Below.refl w.heap.size w)
  obtain ⟨F, hF⟩ := (⟨_, rfl⟩ : ∃ F, frame kd xs = F)
  have hFB : By F := by rw [← hF]; exact frame_by hk hx.2
  have hFl : F.length = n + 9 := by rw [← hF, frame_len, hx.len]
  obtain ⟨x, hxj⟩ : ∃ x, F[0]? = some x := ⟨_, List.getElem?_eq_getElem (by omega)⟩
  have hxb : x < 256 := hFB.get hxj
  obtain ⟨y, hy⟩ := (⟨_, rfl⟩ : ∃ y, (x + u % 256) % 256 = y)
  have ho4 : opE (F.set 0 y) = 3 := by
    have h1 := changed (kind := kd) (data := xs) (i := 0) (x := x) (y := y) hk hx.2 (by rw [hx.len]; exact hg) (by rw [hF]; exact hxj) (by omega) (by omega) (by omega)
    rw [hF] at h1
    rw [h1]
    simp
  have ho1 : oK (F.set 0 y) = 0 := by unfold oK; rw [if_neg (by omega)]
  have ho2 : oD (F.set 0 y) = [] := by unfold oD; rw [if_neg (by omega)]
  have ho3 : oR (F.set 0 y) = [] := by unfold oR; rw [if_neg (by omega)]
  have hFS : By (F.set 0 y) := by
    intro z hz
    rcases List.mem_or_eq_of_mem_set hz with h | h
    · exact hFB z h
    · omega
  have hqi : (u : Int) / 256 % ((n : Int) + 9 - 3) = (0 : Int) := by
    have e : (n : Int) + 9 - 3 = ((n + 6 : Nat) : Int) := by omega
    have e2 : (u : Int) / 256 = ((u / 256 : Nat) : Int) := by omega
    rw [e, e2, ← Int.natCast_emod, hj]
    rfl
  have hyi : ((x : Int) + (u : Int) % 256) % 256 = (y : Int) := by rw [← hy]; omega
  have e0 : ((u : Int) % 256 == 0) = false := beq_eq_false_iff_ne.2 (by omega)
  have HF := hide hF
  have HK := hide hk
  have HXj := hide hxj
  have HO1 := hide ho1
  have HO2 := hide ho2
  have HO3 := hide ho3
  have HO4 := hide ho4
  have HX := hide hx
  have HFS := hide hFS
  unfold maxLen at _hxm
  clear hF hk hxj ho1 ho2 ho3 ho4 hx hFS hy hj hFB hFl
  have d1 : decide ((8192 : Int) < (n : Int)) = false := decide_eq_false (by omega)
  go_enter Try.func7, Try.ntmps7
  go_wp2_with fail
  (with_reducible refine (awake_yes _).mono ?_)
  rintro e w1 ⟨rfl, hb⟩
  replace HB := hide (HB.out.trans (hb.mono HB.out.size))
  clear hb
  go_wp2_with fail
  have HXX := hide (HX.out.below HB.out)
  have HB1 := hide (show w.heap.size ≤ w1.heap.size from HB.out.size)
  refine (rseal_any kd A n c xs _ HXX.out HK.out hg F HF.out).mono ?_
  rintro e w2 ⟨A1, c1, rfl, hr1, hb⟩
  replace HB := hide (HB.out.trans (hb.mono HB.out.size))
  have H1 := hide hr1
  clear hr1
  clear hb
  obtain ⟨g, rfl, hgb, hgc, hgm, hgx, hgf, hgs⟩ := H1.out.head (by omega)
  have lc := hgx _ _ HXj.out
  have lf := hgf 0
  have HGS := hide (hgs 0 y)
  have HGC := hide (show n + 9 ≤ c1 ∧ c1 ≤ maxLen from ⟨hgc, hgm⟩)
  have HGB := hide (show w.heap.size ≤ g from Nat.le_trans HB1.out hgb)
  have lg : g < w2.heap.size := World.block_lt_of_cell? _ _ lc
  clear hgx hgf hgs hgm
  go_wp2_with fail
  generalize hW : World.setCell w2 _ _ = W9
  have HR9 := HGS.out
  have HB9 := HB.out.setCell (p := ⟨g, 0, none⟩) HGB.out (.int .u8 (y : Int))
  rw [hW] at HR9 HB9
  replace HB := hide HB9
  have H9 := hide (RB.br HR9 HFS.out)
  clear hW HR9 HB9 lc lf lg HGS HXX H1
  refine (open_any _ (n + 9) c1 (F.set 0 y) _ H9.out HGC.out.1 HGC.out.2 (by omega) 0 [] [] 3 HO1.out HO2.out HO3.out HO4.out).mono ?_
  rintro e w3 ⟨A5, n5, c5, A6, n6, c6, rfl, hr5, hr6, hb⟩
  replace HB := hide (HB.out.trans (hb.mono HB.out.size))
  have H5 := hide hr5
  clear hr5
  have H6 := hide hr6
  clear hr6
  clear hb
  go_wp2_with fail
  go_ret
  exact ⟨rfl, HB.out⟩
set_option maxRecDepth 100000 in
set_option maxHeartbeats 16000000 in
theorem changes_1 (kd : Nat) (A : Option Addr) (n c : Nat) (xs : List Nat) (u : Nat) (w : World) (hk : kd < 256) (hx : BR w A n xs) (_hxc : n ≤ c) (_hxm : c ≤ maxLen) (_hu : u < 4294967296) (hg : n ≤ 8192) (_h0 : ¬ u % 256 = 0) (hj : u / 256 % (n + 6) = 1) :
    Calls Try.prog 7 #[.int .u8 (kd : Int), .slice A n c, .int .u32 (u : Int)] w fun e w' => e = .returned (.bool true) ∧ Below w.heap.size w w' := by
  have HB := hide (Below.refl w.heap.size w)
  obtain ⟨F, hF⟩ := (⟨_, rfl⟩ : ∃ F, frame kd xs = F)
  have hFB : By F := by rw [← hF]; exact frame_by hk hx.2
  have hFl : F.length = n + 9 := by rw [← hF, frame_len, hx.len]
  obtain ⟨x, hxj⟩ : ∃ x, F[1]? = some x := ⟨_, List.getElem?_eq_getElem (by omega)⟩
  have hxb : x < 256 := hFB.get hxj
  obtain ⟨y, hy⟩ := (⟨_, rfl⟩ : ∃ y, (x + u % 256) % 256 = y)
  have ho4 : opE (F.set 1 y) = 5 := by
    have h1 := changed (kind := kd) (data := xs) (i := 1) (x := x) (y := y) hk hx.2 (by rw [hx.len]; exact hg) (by rw [hF]; exact hxj) (by omega) (by omega) (by omega)
    rw [hF] at h1
    rw [h1]
    simp
  have ho1 : oK (F.set 1 y) = 0 := by unfold oK; rw [if_neg (by omega)]
  have ho2 : oD (F.set 1 y) = [] := by unfold oD; rw [if_neg (by omega)]
  have ho3 : oR (F.set 1 y) = [] := by unfold oR; rw [if_neg (by omega)]
  have hFS : By (F.set 1 y) := by
    intro z hz
    rcases List.mem_or_eq_of_mem_set hz with h | h
    · exact hFB z h
    · omega
  have hqi : (u : Int) / 256 % ((n : Int) + 9 - 3) = (1 : Int) := by
    have e : (n : Int) + 9 - 3 = ((n + 6 : Nat) : Int) := by omega
    have e2 : (u : Int) / 256 = ((u / 256 : Nat) : Int) := by omega
    rw [e, e2, ← Int.natCast_emod, hj]
    rfl
  have hyi : ((x : Int) + (u : Int) % 256) % 256 = (y : Int) := by rw [← hy]; omega
  have e0 : ((u : Int) % 256 == 0) = false := beq_eq_false_iff_ne.2 (by omega)
  have HF := hide hF
  have HK := hide hk
  have HXj := hide hxj
  have HO1 := hide ho1
  have HO2 := hide ho2
  have HO3 := hide ho3
  have HO4 := hide ho4
  have HX := hide hx
  have HFS := hide hFS
  unfold maxLen at _hxm
  clear hF hk hxj ho1 ho2 ho3 ho4 hx hFS hy hj hFB hFl
  have d1 : decide ((8192 : Int) < (n : Int)) = false := decide_eq_false (by omega)
  go_enter Try.func7, Try.ntmps7
  go_wp2_with fail
  (with_reducible refine (awake_yes _).mono ?_)
  rintro e w1 ⟨rfl, hb⟩
  replace HB := hide (HB.out.trans (hb.mono HB.out.size))
  clear hb
  go_wp2_with fail
  have HXX := hide (HX.out.below HB.out)
  have HB1 := hide (show w.heap.size ≤ w1.heap.size from HB.out.size)
  refine (rseal_any kd A n c xs _ HXX.out HK.out hg F HF.out).mono ?_
  rintro e w2 ⟨A1, c1, rfl, hr1, hb⟩
  replace HB := hide (HB.out.trans (hb.mono HB.out.size))
  have H1 := hide hr1
  clear hr1
  clear hb
  obtain ⟨g, rfl, hgb, hgc, hgm, hgx, hgf, hgs⟩ := H1.out.head (by omega)
  have lc := hgx _ _ HXj.out
  have lf := hgf 1
  have HGS := hide (hgs 1 y)
  have HGC := hide (show n + 9 ≤ c1 ∧ c1 ≤ maxLen from ⟨hgc, hgm⟩)
  have HGB := hide (show w.heap.size ≤ g from Nat.le_trans HB1.out hgb)
  have lg : g < w2.heap.size := World.block_lt_of_cell? _ _ lc
  clear hgx hgf hgs hgm
  go_wp2_with fail
  generalize hW : World.setCell w2 _ _ = W9
  have HR9 := HGS.out
  have HB9 := HB.out.setCell (p := ⟨g, 1, none⟩) HGB.out (.int .u8 (y : Int))
  rw [hW] at HR9 HB9
  replace HB := hide HB9
  have H9 := hide (RB.br HR9 HFS.out)
  clear hW HR9 HB9 lc lf lg HGS HXX H1
  refine (open_any _ (n + 9) c1 (F.set 1 y) _ H9.out HGC.out.1 HGC.out.2 (by omega) 0 [] [] 5 HO1.out HO2.out HO3.out HO4.out).mono ?_
  rintro e w3 ⟨A5, n5, c5, A6, n6, c6, rfl, hr5, hr6, hb⟩
  replace HB := hide (HB.out.trans (hb.mono HB.out.size))
  have H5 := hide hr5
  clear hr5
  have H6 := hide hr6
  clear hr6
  clear hb
  go_wp2_with fail
  go_ret
  exact ⟨rfl, HB.out⟩
set_option maxRecDepth 100000 in
set_option maxHeartbeats 16000000 in
theorem changes_k (kd : Nat) (A : Option Addr) (n c : Nat) (xs : List Nat) (u : Nat) (j : Nat) (w : World) (hk : kd < 256) (hx : BR w A n xs) (_hxc : n ≤ c) (_hxm : c ≤ maxLen) (_hu : u < 4294967296) (hg : n ≤ 8192) (_h0 : ¬ u % 256 = 0) (hj : u / 256 % (n + 6) = j) (_hj2 : 2 ≤ j) (_hjn : j < n + 6) :
    Calls Try.prog 7 #[.int .u8 (kd : Int), .slice A n c, .int .u32 (u : Int)] w fun e w' => e = .returned (.bool true) ∧ Below w.heap.size w w' := by
  have HB := hide (Below.refl w.heap.size w)
  obtain ⟨F, hF⟩ := (⟨_, rfl⟩ : ∃ F, frame kd xs = F)
  have hFB : By F := by rw [← hF]; exact frame_by hk hx.2
  have hFl : F.length = n + 9 := by rw [← hF, frame_len, hx.len]
  obtain ⟨x, hxj⟩ : ∃ x, F[(j + 3)]? = some x := ⟨_, List.getElem?_eq_getElem (by omega)⟩
  have hxb : x < 256 := hFB.get hxj
  obtain ⟨y, hy⟩ := (⟨_, rfl⟩ : ∃ y, (x + u % 256) % 256 = y)
  have ho4 : opE (F.set (j + 3) y) = 5 := by
    have h1 := changed (kind := kd) (data := xs) (i := (j + 3)) (x := x) (y := y) hk hx.2 (by rw [hx.len]; exact hg) (by rw [hF]; exact hxj) (by omega) (by omega) (by omega)
    rw [hF] at h1
    rw [h1]
    simp
  have ho1 : oK (F.set (j + 3) y) = 0 := by unfold oK; rw [if_neg (by omega)]
  have ho2 : oD (F.set (j + 3) y) = [] := by unfold oD; rw [if_neg (by omega)]
  have ho3 : oR (F.set (j + 3) y) = [] := by unfold oR; rw [if_neg (by omega)]
  have hFS : By (F.set (j + 3) y) := by
    intro z hz
    rcases List.mem_or_eq_of_mem_set hz with h | h
    · exact hFB z h
    · omega
  have hqi : (u : Int) / 256 % ((n : Int) + 9 - 3) = (j : Int) := by
    have e : (n : Int) + 9 - 3 = ((n + 6 : Nat) : Int) := by omega
    have e2 : (u : Int) / 256 = ((u / 256 : Nat) : Int) := by omega
    rw [e, e2, ← Int.natCast_emod, hj]
  have hyi : ((x : Int) + (u : Int) % 256) % 256 = (y : Int) := by rw [← hy]; omega
  have e0 : ((u : Int) % 256 == 0) = false := beq_eq_false_iff_ne.2 (by omega)
  have HF := hide hF
  have HK := hide hk
  have HXj := hide hxj
  have HO1 := hide ho1
  have HO2 := hide ho2
  have HO3 := hide ho3
  have HO4 := hide ho4
  have HX := hide hx
  have HFS := hide hFS
  unfold maxLen at _hxm
  clear hF hk hxj ho1 ho2 ho3 ho4 hx hFS hy hj hFB hFl
  have d1 : decide ((8192 : Int) < (n : Int)) = false := decide_eq_false (by omega)
  go_enter Try.func7, Try.ntmps7
  go_wp2_with fail
  (with_reducible refine (awake_yes _).mono ?_)
  rintro e w1 ⟨rfl, hb⟩
  replace HB := hide (HB.out.trans (hb.mono HB.out.size))
  clear hb
  go_wp2_with fail
  have HXX := hide (HX.out.below HB.out)
  have HB1 := hide (show w.heap.size ≤ w1.heap.size from HB.out.size)
  refine (rseal_any kd A n c xs _ HXX.out HK.out hg F HF.out).mono ?_
  rintro e w2 ⟨A1, c1, rfl, hr1, hb⟩
  replace HB := hide (HB.out.trans (hb.mono HB.out.size))
  have H1 := hide hr1
  clear hr1
  clear hb
  obtain ⟨g, rfl, hgb, hgc, hgm, hgx, hgf, hgs⟩ := H1.out.head (by omega)
  have lc := hgx _ _ HXj.out
  have lf := hgf (j + 3)
  have HGS := hide (hgs (j + 3) y)
  have HGC := hide (show n + 9 ≤ c1 ∧ c1 ≤ maxLen from ⟨hgc, hgm⟩)
  have HGB := hide (show w.heap.size ≤ g from Nat.le_trans HB1.out hgb)
  have lg : g < w2.heap.size := World.block_lt_of_cell? _ _ lc
  clear hgx hgf hgs hgm
  go_wp2_with fail
  generalize hW : World.setCell w2 _ _ = W9
  have HR9 := HGS.out
  have HB9 := HB.out.setCell (p := ⟨g, (j + 3), none⟩) HGB.out (.int .u8 (y : Int))
  rw [hW] at HR9 HB9
  replace HB := hide HB9
  have H9 := hide (RB.br HR9 HFS.out)
  clear hW HR9 HB9 lc lf lg HGS HXX H1
  refine (open_any _ (n + 9) c1 (F.set (j + 3) y) _ H9.out HGC.out.1 HGC.out.2 (by omega) 0 [] [] 5 HO1.out HO2.out HO3.out HO4.out).mono ?_
  rintro e w3 ⟨A5, n5, c5, A6, n6, c6, rfl, hr5, hr6, hb⟩
  replace HB := hide (HB.out.trans (hb.mono HB.out.size))
  have H5 := hide hr5
  clear hr5
  have H6 := hide hr6
  clear hr6
  clear hb
  go_wp2_with fail
  go_ret
  exact ⟨rfl, HB.out⟩
theorem changes_all (kd : Nat) (A : Option Addr) (n c : Nat) (xs : List Nat) (u : Nat) (w : World) (hk : kd < 256) (hx : BR w A n xs) (hxc : n ≤ c) (hxm : c ≤ maxLen) (hu : u < 4294967296) :
    Calls Try.prog 7 #[.int .u8 (kd : Int), .slice A n c, .int .u32 (u : Int)] w fun e w' => e = .returned (.bool true) ∧ Below w.heap.size w w' := by
  by_cases hf : n ≤ 8192
  · by_cases h0 : u % 256 = 0
    · exact changes_no2 kd A n c xs u w hk hx hxc hxm hu hf h0
    · have hjn : u / 256 % (n + 6) < n + 6 := Nat.mod_lt _ (by omega)
      rcases hj : u / 256 % (n + 6) with _ | _ | j
      · exact changes_0 kd A n c xs u w hk hx hxc hxm hu hf h0 hj
      · exact changes_1 kd A n c xs u w hk hx hxc hxm hu hf h0 hj
      · exact changes_k kd A n c xs u (j + 2) w hk hx hxc hxm hu hf h0 hj (by omega) (by omega)
  · exact changes_no1 kd A n c xs u w hk hx hxc hxm hu hf
end Go.Proofs.Ytledmceoeambiaa
