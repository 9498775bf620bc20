/- The reference's number, Parse. -/
import Derived.Test.YtaapcfflnklpjaaGreatDoorLPar
namespace Go.Proofs.YtaapcfflnklpjaaGreatDoor
open Go Go.RowKit Go.Lib

/-- the number at the beginning: at most f digits more -/
def numR : Nat → Nat → List UInt8 → Nat
  | 0, n, _ => n
  | _ + 1, n, [] => n
  | f + 1, n, c :: l => if 48 ≤ c.toNat ∧ c.toNat ≤ 57 then numR f (10 * n + (c.toNat - 48)) l else n
theorem numR_dec : ∀ (d : List UInt8) (f acc v : Nat) (e : List UInt8), DigL d → d.length ≤ f → (d.length = f ∨ ∀ c r, e = c :: r → ¬(48 ≤ c.toNat ∧ c.toNat ≤ 57)) → parseUint10 acc d = .ok v → numR f acc (d ++ e) = v
  | [], f, acc, v, e, _, _, he, h => by
    simp only [parseUint10] at h
    injection h with h
    subst h
    rw [List.nil_append]
    rcases f with _ | f
    · rfl
    · rcases e with _ | ⟨c, r⟩
      · rfl
      · unfold numR
        rw [if_neg]
        rcases he with he | he
        · simp at he
        · exact he c r rfl
  | c :: d, 0, acc, v, e, _, hl, _, _ => by simp at hl
  | c :: d, f + 1, acc, v, e, hd, hl, he, h => by
    have hc := hd c List.mem_cons_self
    simp only [parseUint10] at h
    rw [if_pos hc] at h
    split at h
    · cases h
    · split at h
      · cases h
      · rw [List.cons_append]
        unfold numR
        rw [if_pos hc, Nat.mul_comm]
        refine numR_dec d f _ v e (fun x hx => hd x (List.mem_cons_of_mem _ hx)) (by simpa using hl) ?_ h
        rcases he with he | he
        · exact .inl (by simpa using he)
        · exact .inr he
theorem dec_len3 : ∀ (f u : Nat), u < 10 ^ f → 1 ≤ f → (Lib.decDigits u).length ≤ f
  | 0, _, _, h => by omega
  | f + 1, u, h, _ => by
    rw [Lib.decDigits]
    split
    · simp
    · rename_i h10
      have hf : 1 ≤ f := by
        rcases f with _ | f
        · omega
        · omega
      have := dec_len3 f (u / 10) (by rw [Nat.pow_succ] at h; omega) hf
      simp only [List.length_append, List.length_cons, List.length_nil]
      omega
theorem numR_lt : ∀ (f n : Nat) (l : List UInt8), numR f n l < 10 ^ f * (n + 1)
  | 0, n, l => by unfold numR; omega
  | f + 1, n, [] => by
    unfold numR
    have : 1 ≤ 10 ^ (f + 1) := Nat.pos_of_ne_zero (by simp)
    have := Nat.mul_le_mul_right (n + 1) this
    omega
  | f + 1, n, c :: l => by
    unfold numR
    split
    · have := numR_lt f (10 * n + (c.toNat - 48)) l
      have h2 : 10 ^ f * (10 * n + (c.toNat - 48) + 1) ≤ 10 ^ f * (10 * (n + 1)) := Nat.mul_le_mul_left _ (by omega)
      have h3 : 10 ^ (f + 1) * (n + 1) = 10 ^ f * (10 * (n + 1)) := by rw [Nat.pow_succ, Nat.mul_assoc]
      omega
    · have : 1 ≤ 10 ^ (f + 1) := Nat.pos_of_ne_zero (by simp)
      have := Nat.mul_le_mul_right (n + 1) this
      omega
/-- the number of the label whose text this is -/
theorem lab_num {s n t : Int} {b : UInt8} {r : List UInt8} (h : IsLab (b :: r) s n t) : n = (numR 3 0 r : Nat) := by
  obtain ⟨h1, h2⟩ := h
  obtain ⟨hs, ⟨hn1, hn2⟩, h0, h9⟩ := lB_true.1 h1
  have hsl : ∃ x, sideL s = [x] := by
    unfold sideL
    rcases hs with rfl | rfl
    · exact ⟨79, rfl⟩
    · exact ⟨82, rfl⟩
  obtain ⟨x, hx⟩ := hsl
  unfold labL at h2
  rw [hx, List.append_assoc] at h2
  injection h2 with e1 e2
  replace e2 : Lib.decDigits n.toNat ++ stateL t = r := e2
  rw [← e2, numR_dec (Lib.decDigits n.toNat) 3 0 n.toNat (stateL t) (dec_digs _) (dec_len3 3 _ (by omega) (by omega)) (.inr fun c q he => ?_) (parse_dec _ _ (Nat.lt_succ_self _) (by omega))]
  · omega
  · have := stateL_in h0 h9 c (by rw [he]; exact List.mem_cons_self)
    have h97 : ∀ x ∈ stL, 97 ≤ x.toNat := by decide
    have := h97 c this
    omega
theorem drop_atB {l : List UInt8} {i : Nat} {c : UInt8} (h : l[i]? = some c) : l.drop i = c :: l.drop (i + 1) := by
  obtain ⟨hj, e⟩ := List.getElem?_eq_some_iff.1 h
  rw [List.drop_eq_getElem_cons hj, e]
theorem at_some (s : ByteArray) (i : Nat) (h : i < s.size) : s.data.toList[i]? = some s[i] := by
  rw [at_data s i h]
  exact List.getElem?_eq_getElem _
set_option maxHeartbeats 2000000 in
theorem number_any (s : ByteArray) (w : World) (hs : s.size ≤ 5000) (v : Nat) (hv : numR 3 0 s.data.toList = v) :
    Calls Tryz.prog 120 #[.string s] w fun e w' => e = .returned (.int .i64 (v : Int)) ∧ w = w' := by
  have HV := hide hv
  have HZ := hide (Lib.size_eq s)
  clear hv
  go_enter Tryz.func120, Tryz.ntmps120
  go_wp2_with fail
  go_loop [3, 4] (fun v3 v4 => ∃ (i n : Nat), i ≤ 3 ∧ i ≤ s.size ∧ v3 = .int .i64 ((n : Nat) : Int) ∧ v4 = .int .i64 ((i : Nat) : Int) ∧ n ≤ 10000 ∧ Hid (n < 10 ^ i) ∧ Hid (numR (3 - i) n (s.data.toList.drop i) = v)) (fun _ v4 => 3 - (RowKit.intOf v4).toNat)
  case atStart => exact ⟨0, 0, by omega, by omega, rfl, rfl, by omega, hide (by decide), hide (by rw [List.drop_zero]; exact HV.out)⟩
  case round =>
    obtain ⟨i, n, hi, his, rfl, rfl, hn, HN, HR⟩ := hrel
    have fin : Hid (numR (3 - i) n (s.data.toList.drop i) = n → n = v) := hide fun h => h.symm.trans HR.out
    by_cases hlt : i < s.size
    · have d0 : decide ((i : Int) < (s.size : Int)) = true := decide_eq_true (by omega)
      by_cases h3 : i < 3
      · have d1 : decide ((i : Int) < 3) = true := decide_eq_true (by omega)
        have i1 : (0 : Int) ≤ (i : Int) := by omega
        have hc := at_some s i hlt
        have HD := hide (show numR (3 - i) n (s[i] :: s.data.toList.drop (i + 1)) = v from by rw [← drop_atB hc]; exact HR.out)
        have HE : Hid (3 - i = (2 - i) + 1) := hide (by omega)
        by_cases h4 : 48 ≤ s[i].toNat
        · have d2 : decide ((48 : Int) ≤ (s[i].toNat : Int)) = true := decide_eq_true (by omega)
          by_cases h5 : s[i].toNat ≤ 57
          · have d3 : decide ((s[i].toNat : Int) ≤ 57) = true := decide_eq_true (by omega)
            have H2 := hide (show numR (3 - (i + 1)) (10 * n + (s[i].toNat - 48)) (s.data.toList.drop (i + 1)) = v from by
              have h := HD.out
              rw [HE.out] at h
              unfold numR at h
              rw [if_pos ⟨h4, h5⟩] at h
              rw [show 3 - (i + 1) = 2 - i by omega]
              exact h)
            have HB := hide (show 10 * n + (s[i].toNat - 48) < 10 ^ (i + 1) from by
              have := HN.out
              rw [Nat.pow_succ]; omega)
            have hn2 : n ≤ 100 := by
              have h1 := HN.out
              have h2 : 10 ^ i ≤ 10 ^ 2 := Nat.pow_le_pow_right (by decide) (by omega)
              omega
            have HC := hide (show 10 * (n : Int) + ((s[i].toNat : Int) - 48) = ((10 * n + (s[i].toNat - 48) : Nat) : Int) from by omega)
            clear hc HD HE HR HN fin
            go_wp2_with fail
            go_round
            case rel => exact ⟨i + 1, 10 * n + (s[i].toNat - 48), by omega, by omega, congrArg _ HC.out, by go_num, by omega, HB, H2⟩
            case measure => simp [RowKit.intOf]; omega
          · have d3 : decide ((s[i].toNat : Int) ≤ 57) = false := decide_eq_false (by omega)
            have H2 := hide (show n = v from by
              have h := HD.out
              rw [HE.out] at h
              unfold numR at h
              rwa [if_neg fun hc => h5 hc.2] at h)
            clear hc HD HE HR HN fin
            go_wp2_with fail
            go_ret
            exact ⟨by rw [H2.out]; rfl, rfl⟩
        · have d2 : decide ((48 : Int) ≤ (s[i].toNat : Int)) = false := decide_eq_false (by omega)
          have H2 := hide (show n = v from by
            have h := HD.out
            rw [HE.out] at h
            unfold numR at h
            rwa [if_neg fun hc => h4 hc.1] at h)
          clear hc HD HE HR HN fin
          go_wp2_with fail
          go_ret
          exact ⟨by rw [H2.out]; rfl, rfl⟩
      · obtain rfl : i = 3 := by omega
        have H2 := hide (show n = v from by rw [← HR.out]; rfl)
        clear HR HN fin
        go_wp2_with fail
        go_ret
        exact ⟨by rw [H2.out]; rfl, rfl⟩
    · obtain rfl : i = s.size := by omega
      have H2 := hide (show n = v from by
        rw [← HR.out, List.drop_of_length_le (by rw [← HZ.out]; exact Nat.le_refl _)]
        rcases 3 - s.size with _ | f <;> rfl)
      have d7 : decide ((s.size : Int) < (s.size : Int)) = false := decide_eq_false (by omega)
      clear HR HN fin
      go_wp2_with fail
      go_ret
      exact ⟨by rw [H2.out]; rfl, rfl⟩
/-- no label of this number, up to a side and a state -/
def NoLab (l : List UInt8) (n : Nat) (k t : Nat) : Prop := ∀ (a b : Nat), a < 2 → b ≤ 9 → a < k ∨ (a = k ∧ b < t) → ¬IsLab l a n b
theorem noLab_all {b : UInt8} {r : List UInt8} (h : NoLab (b :: r) (numR 3 0 r) 2 0) : parR (b :: r) = (0, 0, 0, 3) := by
  have : parL (b :: r) = none := parL_none.2 fun s n t hl => by
    have hn := lab_num hl
    obtain ⟨hs, _, h0, h9⟩ := lB_true.1 hl.1
    obtain ⟨u, rfl⟩ : ∃ u : Nat, t = (u : Int) := ⟨t.toNat, by omega⟩
    subst hn
    rcases hs with rfl | rfl
    · exact h 0 u (by omega) (by omega) (.inl (by omega)) hl
    · exact h 1 u (by omega) (by omega) (.inl (by omega)) hl
  unfold parR
  rw [this]
theorem lab_hit {l : List UInt8} {a n b : Nat} (h : IsLab l a n b) : parR l = ((a : Int), (n : Int), (b : Int), 0) := by
  unfold parR
  rw [parL_some.2 h]
theorem isLab_iff {s : ByteArray} {a n t : Int} (hne : s.data.toList ≠ []) : IsLab s.data.toList a n t ↔ labT a n t = s := by
  unfold IsLab labT
  constructor
  · rintro ⟨h1, h2⟩
    rw [if_pos h1, h2, strB_data]
  · intro he
    split at he
    · rename_i h1
      refine ⟨h1, ?_⟩
      rw [← he, data_strB]
    · rw [← he] at hne
      exact absurd rfl hne
set_option maxHeartbeats 1000000 in
theorem rpar_e (w : World) : Calls Tryz.prog 90 #[.string ⟨#[]⟩] w (GivesP 0 0 0 3 w) := by
  have e0 : ((⟨#[]⟩ : ByteArray).size : Int) = 0 := rfl
  go_enter Tryz.func90, Tryz.ntmps90
  go_wp2_with fail
  go_loopw [4] (fun v4 wr => v4 = .int .i64 0 ∧ wr = w.alloc (.cells #[.int .i64 0, .int .i64 0, .int .i64 0] 55)) (fun _ _ => 0)
  case atStart => exact ⟨rfl, rfl⟩
  case round =>
    obtain ⟨rfl, rfl⟩ := hrel
    go_wp2_with fail
    refine bodyPost_ret (v := .tuple #[.agg #[.int .i64 0, .int .i64 0, .int .i64 0], .int .i64 3]) (by simp [results, Tryz.results90, go_sem, *]) rfl ?_
    exact ⟨rfl, by first | exact (Below.refl _ _).alloc (Nat.le_refl _) _ | exact Below.setCell ((Below.refl _ _).alloc (Nat.le_refl _) _) (Nat.le_refl _) _⟩
set_option maxHeartbeats 8000000 in
theorem rpar_y (s : ByteArray) (w : World) (hT : Lw w) (hs : s.size ≤ 5000) (b : UInt8) (r : List UInt8) (hl : s.data.toList = b :: r) (x y z er : Int) (hr : parR (b :: r) = (x, y, z, er)) :
    Calls Tryz.prog 90 #[.string s] w (GivesP x y z er w) := by
  have HT := hide hT
  have HR := hide hr
  have hz := Lib.size_eq s
  have hpos : 0 < s.size := by rw [hz, hl]; simp
  have HL := hide hl
  have HNE := hide (show s.data.toList ≠ [] from by rw [hl]; simp)
  have he : (s.extract 1 s.size).data.toList = r := by rw [Lib.extract_to_end, hl]; rfl
  have hes : (s.extract 1 s.size).size ≤ 5000 := by have := Lib.size_eq (s.extract 1 s.size); have h2 := Lib.size_eq s; rw [he] at this; rw [hl, List.length_cons] at h2; omega
  have HNU := hide (fun W => number_any (s.extract 1 s.size) W hes (numR 3 0 r) (by rw [he]))
  have hnl := numR_lt 3 0 r
  obtain ⟨N, hN⟩ : ∃ N, numR 3 0 r = N := ⟨_, rfl⟩
  have HEND := hide (fun h : NoLab (b :: r) N 2 0 => noLab_all (b := b) (r := r) (by rw [hN]; exact h))
  rw [hN] at HNU hnl
  have hn1 : (N : Int) ≤ 999 := by omega
  have i1 : (1 : Int) ≤ (s.size : Int) := by omega
  have i0 : (0 : Int) < (s.size : Int) := by omega
  clear hT hl hz hr he hes hN hnl
  go_enter Tryz.func90, Tryz.ntmps90
  go_wp2_with fail
  have B0 : Below w.heap.size w (w.alloc (.cells #[.int .i64 0, .int .i64 0, .int .i64 0] 55)) := (Below.refl _ _).alloc (Nat.le_refl _) _
  have b0 : Box (w.alloc (.cells #[.int .i64 0, .int .i64 0, .int .i64 0] 55)) w.heap.size #[.int .i64 0, .int .i64 0, .int .i64 0] 55 := Box.new _ _ _
  generalize w.alloc _ = W0 at *
  go_loopw [4] (fun v4 wr => ∃ (k : Nat), k ≤ 2 ∧ v4 = .int .i64 ((k : Nat) : Int) ∧ Hid (NoLab (b :: r) N k 0) ∧ Below w.heap.size w wr ∧ Box wr w.heap.size #[.int .i64 0, .int .i64 0, .int .i64 0] 55) (fun v4 _ => 2 - (RowKit.intOf v4).toNat)
  case atStart => exact ⟨0, by omega, rfl, hide fun a b ha hb h => by omega, B0, b0⟩
  case round =>
    clear B0 b0
    obtain ⟨k, hk, rfl, HK, B, b2⟩ := hrel
    by_cases hlt : k < 2
    · have d0 : decide ((k : Int) < 2) = true := decide_eq_true (by omega)
      go_wp2_with fail
      go_loopw [5] (fun v5 wr => ∃ (t : Nat), t ≤ 10 ∧ v5 = .int .i64 ((t : Nat) : Int) ∧ Hid (NoLab (b :: r) N k t) ∧ Below w.heap.size w wr ∧ Box wr w.heap.size #[.int .i64 0, .int .i64 0, .int .i64 0] 55) (fun v5 _ => 10 - (RowKit.intOf v5).toNat)
      case atStart => exact ⟨0, by omega, rfl, HK, B, b2⟩
      case round =>
        clear B b2 HK
        obtain ⟨t, ht, rfl, HK, B, b2⟩ := hrel
        by_cases hlt2 : t ≤ 9
        · have d1 : decide ((t : Int) ≤ 9) = true := decide_eq_true (by omega)
          go_wp2_with fail
          refine (HNU.out _).mono ?_
          rintro e w1 ⟨rfl, rfl⟩
          go_wp2_with fail
          generalize hW : wr.alloc _ = W1
          obtain ⟨hb, b6, -⟩ := boxC hW
          clear hW
          replace B := B.trans (hb.mono B.size)
          replace b2 := b2.below' hb
          clear hb
          have hgw := B.size
          generalize wr.heap.size = g6 at *
          obtain ⟨v, hv⟩ : ∃ v, lB (k : Int) (N : Int) (t : Int) = v := ⟨_, rfl⟩
          have HVV := hide hv
          have l6 := b6.lt
          have l2 := b2.lt
          have z0 : W1.cell? ⟨g6, 0, none⟩ = some (.int .i64 (k : Int)) := b6.at_ 0
          have z1 : W1.cell? ⟨g6, 1, none⟩ = some (.int .i64 (N : Int)) := b6.at_ 1
          have z2 : W1.cell? ⟨g6, 2, none⟩ = some (.int .i64 (t : Int)) := b6.at_ 2
          clear hv
          go_wp2_with fail
          refine (rvalid_any (k : Int) (N : Int) (t : Int) _ v HVV.out).mono ?_
          rintro e w2 ⟨rfl, hb⟩
          replace B := B.trans (hb.mono B.size)
          replace b2 := b2.below' hb
          replace b6 := b6.below' hb
          have l6 := b6.lt
          have l2 := b2.lt
          clear z0 z1 z2 hb
          have z0 : w2.cell? ⟨g6, 0, none⟩ = some (.int .i64 (k : Int)) := b6.at_ 0
          have z1 : w2.cell? ⟨g6, 1, none⟩ = some (.int .i64 (N : Int)) := b6.at_ 1
          have z2 : w2.cell? ⟨g6, 2, none⟩ = some (.int .i64 (t : Int)) := b6.at_ 2
          cases v with
          | false =>
            have HK2 := hide (show NoLab (b :: r) N k (t + 1) from fun a c ha hc h hl => by
              rcases (show a < k ∨ (a = k ∧ c < t) ∨ (a = k ∧ c = t) by omega) with h | h | ⟨h1, h2⟩
              · exact HK.out a c ha hc (.inl h) hl
              · exact HK.out a c ha hc (.inr h) hl
              · subst h1; subst h2; exact absurd (HVV.out.symm.trans hl.1) (by decide))
            go_wp2_with fail
            go_roundw
            case rel => exact ⟨t + 1, by omega, by go_num, HK2, B, b2⟩
            case measure => simp [RowKit.intOf]; omega
          | true =>
            obtain ⟨S, hS⟩ : ∃ S, labT (k : Int) (N : Int) (t : Int) = S := ⟨_, rfl⟩
            have HSS := hide hS
            clear hS
            go_wp2_with fail
            refine (rtext5_any (k : Int) (N : Int) (t : Int) _ (HT.out.below B) S HSS.out).mono ?_
            rintro e w3 ⟨rfl, hb⟩
            replace B := B.trans (hb.mono B.size)
            replace b2 := b2.below' hb
            replace b6 := b6.below' hb
            have l6 := b6.lt
            have l2 := b2.lt
            clear z0 z1 z2 hb
            have z0 : w3.cell? ⟨g6, 0, none⟩ = some (.int .i64 (k : Int)) := b6.at_ 0
            have z1 : w3.cell? ⟨g6, 1, none⟩ = some (.int .i64 (N : Int)) := b6.at_ 1
            have z2 : w3.cell? ⟨g6, 2, none⟩ = some (.int .i64 (t : Int)) := b6.at_ 2
            by_cases hc : S = s
            · have hq := lab_hit ((isLab_iff (s := s) HNE.out).2 (HSS.out.trans hc))
              rw [HL.out, HR.out] at hq
              injection hq with q1 hq; injection hq with q2 hq; injection hq with q3 q4
              subst q1; subst q2; subst q3; subst q4
              have y0 : w3.cell? ⟨w.heap.size, 0, none⟩ = some (.int .i64 0) := b2.at_ 0
              have y1 : w3.cell? ⟨w.heap.size, 1, none⟩ = some (.int .i64 0) := b2.at_ 1
              have y2 : w3.cell? ⟨w.heap.size, 2, none⟩ = some (.int .i64 0) := b2.at_ 2
              have f0 := b2.frozen 0
              have f1 := b2.frozen 1
              have f2 := b2.frozen 2
              subst hc
              go_wp2_with fail
              refine bodyPost_ret (v := .tuple #[.agg #[.int .i64 (k : Int), .int .i64 (N : Int), .int .i64 (t : Int)], .int .i64 0]) (by simp [results, Tryz.results90, go_sem, *]) rfl ?_
              exact ⟨rfl, ((B.setCell (p := ⟨w.heap.size, 0, none⟩) (Nat.le_refl _) _).setCell (p := ⟨w.heap.size, 1, none⟩) (Nat.le_refl _) _).setCell (p := ⟨w.heap.size, 2, none⟩) (Nat.le_refl _) _⟩
            · have ne : (S.toList == s.toList) = false := beq_eq_false_iff_ne.2 fun h => hc (toList_inj h)
              have HK2 := hide (show NoLab (b :: r) N k (t + 1) from fun a c ha hcc h hl => by
                rcases (show a < k ∨ (a = k ∧ c < t) ∨ (a = k ∧ c = t) by omega) with h | h | ⟨h1, h2⟩
                · exact HK.out a c ha hcc (.inl h) hl
                · exact HK.out a c ha hcc (.inr h) hl
                · subst h1; subst h2
                  rw [← HL.out, isLab_iff HNE.out, HSS.out] at hl
                  exact hc hl)
              clear hc
              go_wp2_with fail
              go_roundw
              case rel => exact ⟨t + 1, by omega, by go_num, HK2, B, b2⟩
              case measure => simp [RowKit.intOf]; omega
        · obtain rfl : t = 10 := by omega
          have HK2 := hide (show NoLab (b :: r) N (k + 1) 0 from fun a c ha hc h hl => by
            rcases (show a < k ∨ (a = k ∧ c < 10) by omega) with h | h
            · exact HK.out a c ha hc (.inl h) hl
            · exact HK.out a c ha hc (.inr h) hl)
          go_wp2_with fail
          go_roundw
          case rel => exact ⟨k + 1, by omega, by go_num, HK2, B, b2⟩
          case measure => simp [RowKit.intOf]; omega
    · obtain rfl : k = 2 := by omega
      have hq := HEND.out HK.out
      rw [HR.out] at hq
      injection hq with q1 hq; injection hq with q2 hq; injection hq with q3 q4
      subst q1; subst q2; subst q3; subst q4
      have l2 := b2.lt
      have y0 : wr.cell? ⟨w.heap.size, 0, none⟩ = some (.int .i64 0) := b2.at_ 0
      have y1 : wr.cell? ⟨w.heap.size, 1, none⟩ = some (.int .i64 0) := b2.at_ 1
      have y2 : wr.cell? ⟨w.heap.size, 2, none⟩ = some (.int .i64 0) := b2.at_ 2
      have f0 := b2.frozen 0
      have f1 := b2.frozen 1
      have f2 := b2.frozen 2
      go_wp2_with fail
      refine bodyPost_ret (v := .tuple #[.agg #[.int .i64 0, .int .i64 0, .int .i64 0], .int .i64 3]) (by simp [results, Tryz.results90, go_sem, *]) rfl ?_
      exact ⟨rfl, ((B.setCell (p := ⟨w.heap.size, 0, none⟩) (Nat.le_refl _) _).setCell (p := ⟨w.heap.size, 1, none⟩) (Nat.le_refl _) _).setCell (p := ⟨w.heap.size, 2, none⟩) (Nat.le_refl _) _⟩
theorem rparse_any (s : ByteArray) (w : World) (hT : Lw w) (hs : s.size ≤ 5000) (x y z er : Int) (hr : parR s.data.toList = (x, y, z, er)) :
    Calls Tryz.prog 90 #[.string s] w (GivesP x y z er w) := by
  rcases hl : s.data.toList with _ | ⟨b, r⟩
  · rw [hl] at hr
    have : parR [] = (0, 0, 0, 3) := rfl
    rw [this] at hr
    injection hr with q1 hr; injection hr with q2 hr; injection hr with q3 q4
    subst q1; subst q2; subst q3; subst q4
    obtain rfl : s = ⟨#[]⟩ := by rw [← strB_data s, hl]; rfl
    exact rpar_e w
  · rw [hl] at hr
    exact rpar_y s w hT hs b r hl x y z er hr
end Go.Proofs.YtaapcfflnklpjaaGreatDoor
