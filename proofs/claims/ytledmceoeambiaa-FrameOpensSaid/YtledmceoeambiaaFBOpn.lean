/- The body of FrameOpens. -/
import Derived.Test.YtledmceoeambiaaFAwk
namespace Go.Proofs.Ytledmceoeambiaa
open Go Go.RowKit FM

theorem wpList_append_rg {P : Program} (w : World) {ops : Array Oper} {rest : List Oper} {o : Oper} {a : Act} {Q : Exit → Act → World → Prop} (hw : Region.wanted o (yielded ops a.tmps) = true) (s x : Operand) (t : TypeId)
    (ho : o.op = .call { callee := .builtin .append, args := #[s, x], argTypes := #[t, t] })
    (base : Nat) (e : TypeId) (k : IntKind) (bytes : Nat) (ht : P.underlying t = some (.slice e)) (h2 : (P.info? e).map (fun i => (i.zero, i.size, i.bytes)) = some (some (.int k 0), 1, bytes))
    (S : Option Addr) (n cs : Nat) (xs : List Nat) (hs : a.eval s = .slice S n cs) (hown : Row w base k e S n cs xs)
    (A : Option Addr) (m c : Nat) (news : List Nat) (hx : a.eval x = .slice A m c) (hr : RL w k A m news) (hby : bytes ≤ 8) (p : Nat) (hp : p = n + m) (hN : p ≤ 1099511627776) (hbase : base ≤ w.heap.size)
    (h : ∀ A' c' w', Row w' base k e A' p c' (xs ++ news) → Below base w w' → w.heap.size ≤ w'.heap.size → wpList P ops Q rest (a.put o.dst (.slice A' p c')) w') : wpList P ops Q (o :: rest) a w :=
  wpList_step fun K hK => by
    rw [if_pos hw]
    subst hp
    obtain ⟨A', c', w', hrun, h2, h3, h4⟩ := run_append_rl (P := P) w base t o.type e k bytes ht h2 S n cs xs hown A m c news hr hby hN hbase
    unfold Oper.wp execOp
    simp only [ho, resolve, invoke, builtin, Sem.run_bind, Sem.run_pure, Result.andThen_ok, List.map_toArray, List.map_cons, List.map_nil, hs, hx, hrun]
    exact hK _ _ (h A' c' w' h2 h3 h4)
theorem opE_cases (xs : List Nat) : opE xs = 0 ∨ opE xs = 3 ∨ opE xs = 4 ∨ opE xs = 5 ∨ opE xs = 6 := by
  unfold opE
  repeat' split
  all_goals simp
theorem oD_len {xs : List Nat} (h : By xs) : (oD xs).length ≤ 8192 := by
  unfold oD
  split
  · rename_i h0
    exact (frame_open h h0).1
  · simp
set_option maxRecDepth 100000 in
set_option maxHeartbeats 16000000 in
theorem opens_no (A : Option Addr) (n c : Nat) (xs : List Nat) (w : World) (_hx : BR w A n xs) (_hxc : n ≤ c) (_hxm : c ≤ maxLen) (_hf : ¬ n ≤ 10000) :
    Calls Try.prog 5 #[.slice A n c] w fun e w' => e = .returned (.bool true) ∧ Below w.heap.size w w' := by
  have HB := hide (Below.refl w.heap.size w)
  unfold maxLen at _hxm
  have d1 : decide ((10000 : Int) < (n : Int)) = true := decide_eq_true (by omega)
  clear _hx
  go_enter Try.func5, Try.ntmps5
  go_wp2_with fail
  (with_reducible refine (awake_yes _).mono ?_)
  rintro e w1 ⟨rfl, hb⟩
  replace HB := hide (HB.out.trans (hb.mono HB.out.size))
  clear hb
  go_wp2_with fail
  (with_reducible refine (awake_yes _).mono ?_)
  rintro e w2 ⟨rfl, hb⟩
  replace HB := hide (HB.out.trans (hb.mono HB.out.size))
  clear hb
  go_wp2_with fail
  go_ret
  exact ⟨rfl, HB.out⟩
set_option maxRecDepth 100000 in
set_option maxHeartbeats 16000000 in
theorem opens_bad (A : Option Addr) (n c : Nat) (xs : List Nat) (E : Nat) (w : World) (hx : BR w A n xs) (hxc : n ≤ c) (hxm : c ≤ maxLen) (_hf : n ≤ 10000) (hE : opE xs = E) (h0 : E = 3 ∨ E = 4 ∨ E = 5 ∨ E = 6) :
    Calls Try.prog 5 #[.slice A n c] w fun e w' => e = .returned (.bool true) ∧ Below w.heap.size w w' := by
  have HB := hide (Below.refl w.heap.size w)
  obtain ⟨K, hK⟩ := (⟨_, rfl⟩ : ∃ K, oK xs = K)
  obtain ⟨D, hD⟩ := (⟨_, rfl⟩ : ∃ D, oD xs = D)
  obtain ⟨R, hR⟩ := (⟨_, rfl⟩ : ∃ R, oR xs = R)
  obtain ⟨F, hF⟩ := (⟨_, rfl⟩ : ∃ F, frame K D = F)
  have HDB := hide (show By D from by rw [← hD]; exact oD_by hx.2)
  have HRB := hide (show By R from by rw [← hR]; exact oR_by hx.2)
  have HDL := hide (show D.length ≤ 8192 from by rw [← hD]; exact oD_len hx.2)
  have HK := hide (show K < 256 from by rw [← hK]; exact oK_lt hx.2)
  have HFB := hide (show By F from by rw [← hF]; exact frame_by HK.out HDB.out)
  rcases h0 with rfl | rfl | rfl | rfl
  all_goals
    have HO1 := hide hK
    have HO2 := hide hD
    have HO3 := hide hR
    have HO4 := hide hE
    have HF := hide hF
    have HX := hide hx
    have HX0 := hide hx
    have HXc := hide hxc
    have HXm := hide hxm
    unfold maxLen at hxm
    clear hK hD hR hE hF hx
    have d1 : decide ((10000 : Int) < (n : Int)) = false := decide_eq_false (by omega)
    go_enter Try.func5, Try.ntmps5
    go_wp2_with fail
    (with_reducible refine (awake_yes _).mono ?_)
    rintro e w1 ⟨rfl, hb⟩
    replace HB := hide (HB.out.trans (hb.mono HB.out.size))
    replace HX := hide (HX.out.below hb)
    clear hb
    go_wp2_with fail
    refine (open_any A n c xs _ HX.out HXc.out HXm.out (by omega) K D R _ HO1.out HO2.out HO3.out HO4.out).mono ?_
    rintro e w2 ⟨A1, n1, c1, A2, n2, c2, rfl, hr1, hr2, hb⟩
    replace HB := hide (HB.out.trans (hb.mono HB.out.size))
    replace HX := hide (HX.out.below hb)
    have H1 := hide (hr1.br HDB.out)
    clear hr1
    have H2 := hide (hr2.br HRB.out)
    clear hr2
    clear hb
    go_wp2_with fail
    refine (ropen_any A n c xs _ HX.out HXc.out HXm.out (by omega) K D R _ HO1.out HO2.out HO3.out HO4.out).mono ?_
    rintro e w3 ⟨A3, n3, c3, A4, n4, c4, rfl, hr3, hr4, hb⟩
    replace HB := hide (HB.out.trans (hb.mono HB.out.size))
    replace HX := hide (HX.out.below hb)
    replace H1 := hide (H1.out.below hb)
    replace H2 := hide (H2.out.below hb)
    have H3 := hide hr3
    clear hr3
    have H4 := hide hr4
    clear hr4
    clear hb
    go_wp2_with fail
    (with_reducible refine (same_any A1 n1 c1 D A3 n3 c3 D _ H1.out H3.out true (decide_eq_true rfl)).mono ?_)
    rintro e w4 ⟨rfl, rfl⟩
    go_wp2_with fail
    (with_reducible refine (same_any A2 n2 c2 R A4 n4 c4 R _ H2.out H4.out true (decide_eq_true rfl)).mono ?_)
    rintro e w5 ⟨rfl, rfl⟩
    go_wp2_with fail
    have HD1 := hide (show n1 ≤ 8192 from by rw [← H1.out.len]; exact HDL.out)
    refine (seal_any K A1 n1 c1 D _ H1.out HK.out HD1.out F HF.out).mono ?_
    rintro e w6 ⟨A5, c5, rfl, hr5, hb⟩
    replace HB := hide (HB.out.trans (hb.mono HB.out.size))
    replace HX := hide (HX.out.below hb)
    replace H1 := hide (H1.out.below hb)
    replace H2 := hide (H2.out.below hb)
    replace H3 := hide (H3.out.below hb)
    replace H4 := hide (H4.out.below hb)
    have H5 := hide hr5
    clear hr5
    clear hb
    go_wp2_with fail
    go_ret
    exact ⟨rfl, HB.out⟩
set_option maxRecDepth 100000 in
set_option maxHeartbeats 16000000 in
theorem opens_yes (A : Option Addr) (n c : Nat) (xs : List Nat) (w : World) (hx : BR w A n xs) (hxc : n ≤ c) (hxm : c ≤ maxLen) (_hf : n ≤ 10000) (hE : opE xs = 0) :
    Calls Try.prog 5 #[.slice A n c] w fun e w' => e = .returned (.bool true) ∧ Below w.heap.size w w' := by
  have HB := hide (Below.refl w.heap.size w)
  obtain ⟨K, hK⟩ := (⟨_, rfl⟩ : ∃ K, oK xs = K)
  obtain ⟨D, hD⟩ := (⟨_, rfl⟩ : ∃ D, oD xs = D)
  obtain ⟨R, hR⟩ := (⟨_, rfl⟩ : ∃ R, oR xs = R)
  obtain ⟨F, hF⟩ := (⟨_, rfl⟩ : ∃ F, frame K D = F)
  have HDB := hide (show By D from by rw [← hD]; exact oD_by hx.2)
  have HRB := hide (show By R from by rw [← hR]; exact oR_by hx.2)
  have HDL := hide (show D.length ≤ 8192 from by rw [← hD]; exact oD_len hx.2)
  have HK := hide (show K < 256 from by rw [← hK]; exact oK_lt hx.2)
  have HFB := hide (show By F from by rw [← hF]; exact frame_by HK.out HDB.out)
  have HRL := hide (show R.length ≤ 10000 from by rw [← hR]; unfold oR opR; split <;> first | (rw [List.length_drop, hx.len]; omega) | simp)
  have HZ := hide (show F ++ R = xs from by rw [← hF, ← hK, ← hD, ← hR]; unfold oK oD oR; rw [if_pos hE, if_pos hE, if_pos hE]; exact (frame_open hx.2 hE).2)
  have HO1 := hide hK
  have HO2 := hide hD
  have HO3 := hide hR
  have HO4 := hide hE
  have HF := hide hF
  have HX := hide hx
  have HX0 := hide hx
  have HXc := hide hxc
  have HXm := hide hxm
  unfold maxLen at hxm
  clear hK hD hR hE hF hx
  have d1 : decide ((10000 : Int) < (n : Int)) = false := decide_eq_false (by omega)
  go_enter Try.func5, Try.ntmps5
  go_wp2_with fail
  (with_reducible refine (awake_yes _).mono ?_)
  rintro e w1 ⟨rfl, hb⟩
  replace HB := hide (HB.out.trans (hb.mono HB.out.size))
  replace HX := hide (HX.out.below hb)
  clear hb
  go_wp2_with fail
  refine (open_any A n c xs _ HX.out HXc.out HXm.out (by omega) K D R 0 HO1.out HO2.out HO3.out HO4.out).mono ?_
  rintro e w2 ⟨A1, n1, c1, A2, n2, c2, rfl, hr1, hr2, hb⟩
  replace HB := hide (HB.out.trans (hb.mono HB.out.size))
  replace HX := hide (HX.out.below hb)
  have H1 := hide (hr1.br HDB.out)
  clear hr1
  have H2 := hide (hr2.br HRB.out)
  clear hr2
  clear hb
  go_wp2_with fail
  refine (ropen_any A n c xs _ HX.out HXc.out HXm.out (by omega) K D R 0 HO1.out HO2.out HO3.out HO4.out).mono ?_
  rintro e w3 ⟨A3, n3, c3, A4, n4, c4, rfl, hr3, hr4, hb⟩
  replace HB := hide (HB.out.trans (hb.mono HB.out.size))
  replace HX := hide (HX.out.below hb)
  replace H1 := hide (H1.out.below hb)
  replace H2 := hide (H2.out.below hb)
  have H3 := hide hr3
  clear hr3
  have H4 := hide hr4
  clear hr4
  clear hb
  go_wp2_with fail
  (with_reducible refine (same_any A1 n1 c1 D A3 n3 c3 D _ H1.out H3.out true (decide_eq_true rfl)).mono ?_)
  rintro e w4 ⟨rfl, rfl⟩
  go_wp2_with fail
  (with_reducible refine (same_any A2 n2 c2 R A4 n4 c4 R _ H2.out H4.out true (decide_eq_true rfl)).mono ?_)
  rintro e w5 ⟨rfl, rfl⟩
  go_wp2_with fail
  have HN2 := hide (show n2 ≤ 10000 from by rw [← H2.out.len]; exact HRL.out)
  have HD1 := hide (show n1 ≤ 8192 from by rw [← H1.out.len]; exact HDL.out)
  refine (seal_any K A1 n1 c1 D _ H1.out HK.out HD1.out F HF.out).mono ?_
  rintro e w6 ⟨A5, c5, rfl, hr5, hb⟩
  have HQ := hide hb.size
  have HW5 := hide (show w.heap.size ≤ w3.heap.size from HB.out.size)
  replace HB := hide (HB.out.trans (hb.mono HB.out.size))
  replace HX := hide (HX.out.below hb)
  replace H1 := hide (H1.out.below hb)
  replace H2 := hide (H2.out.below hb)
  replace H3 := hide (H3.out.below hb)
  replace H4 := hide (H4.out.below hb)
  have H5 := hide hr5
  clear hr5
  clear hb
  have hs5 : w3.heap.size ≤ w6.heap.size := HQ.out
  go_wp2_with (at_builtin; refine wpList_append_rg _ (by rfl) _ _ 22 rfl w3.heap.size 5 .u8 1 Try.underlying22 u8_info A5 (n1 + 9) c5 F rfl H5.out A2 n2 c2 R rfl H2.out.1 (by omega) (n1 + 9 + n2) (by omega) (by have := HN2.out; have := HD1.out; omega) hs5 ?_; intro A6 c6 w7 hrow6 hbel6 hsz6)
  replace HB := hide (HB.out.trans (hbel6.mono HW5.out))
  have H6 := hide (RB.br hrow6 (By.app HFB.out HRB.out))
  rw [HZ.out] at H6
  have HX9 := hide (HX0.out.below HB.out)
  clear hrow6 hbel6 hsz6
  (with_reducible refine (same_any A6 (n1 + 9 + n2) c6 xs A n c xs _ H6.out HX9.out true (decide_eq_true rfl)).mono ?_)
  rintro e w8 ⟨rfl, rfl⟩
  go_wp2_with fail
  go_ret
  exact ⟨rfl, HB.out⟩
theorem opens_all (A : Option Addr) (n c : Nat) (xs : List Nat) (w : World) (hx : BR w A n xs) (hxc : n ≤ c) (hxm : c ≤ maxLen) :
    Calls Try.prog 5 #[.slice A n c] w fun e w' => e = .returned (.bool true) ∧ Below w.heap.size w w' := by
  by_cases hf : n ≤ 10000
  · rcases opE_cases xs with h | h | h | h | h
    · exact opens_yes A n c xs w hx hxc hxm hf h
    · exact opens_bad A n c xs 3 w hx hxc hxm hf h (by omega)
    · exact opens_bad A n c xs 4 w hx hxc hxm hf h (by omega)
    · exact opens_bad A n c xs 5 w hx hxc hxm hf h (by omega)
    · exact opens_bad A n c xs 6 w hx hxc hxm hf h (by omega)
  · exact opens_no A n c xs w hx hxc hxm hf
end Go.Proofs.Ytledmceoeambiaa
