/- The program's journal: Entry. -/
import Derived.Test.YtjmpnpflmdpdkaaJIc
namespace Go.Proofs.Ytjmpnpflmdpdkaa
open Go Go.RowKit FM

/-- what Entry gives -/
def EntR (w : World) (K : Nat) (D : List Nat) (E : Nat) (e : Ending) (w' : World) : Prop :=
  ∃ A n c, e = .returned (.tuple #[.int .u8 (K : Int), .slice A n c, .int .i64 (E : Int)]) ∧ RB w' w.heap.size A n c D ∧ By D ∧ Below w.heap.size w w'
theorem rb_nil (w : World) (b : Nat) : RB w b none 0 0 [] := Row.nil_
theorem ent_nil (i : Int) (w : World) : Calls Try.prog 26 #[.pointer none, .int .i64 i] w (EntR w 0 [] 1) := by
  go_enter Try.func26, Try.ntmps26
  go_wp2_with fail
  refine bodyPost_ret (v := .tuple #[.int .u8 0, .slice none 0 0, .int .i64 1]) (by simp [results, Try.results26, go_sem]) rfl ?_
  exact ⟨none, 0, 0, rfl, rb_nil _ _, By.nil, Below.refl _ _⟩
set_option maxHeartbeats 1000000 in
theorem ent_low (p B : Nat) (F : Nat → Prop) (es : List Ent) (w : World) (_h : JN w B F p es) : Calls Try.prog 26 #[.pointer (some ⟨p, 0, none⟩), .int .i64 (-1)] w (EntR w 0 [] 7) := by
  go_enter Try.func26, Try.ntmps26
  go_wp2_with fail
  refine bodyPost_ret (v := .tuple #[.int .u8 0, .slice none 0 0, .int .i64 7]) (by simp [results, Try.results26, go_sem]) rfl ?_
  exact ⟨none, 0, 0, rfl, rb_nil _ _, By.nil, Below.refl _ _⟩
set_option maxHeartbeats 1000000 in
theorem ent_high (p B : Nat) (F : Nat → Prop) (es : List Ent) (w : World) (h : JN w B F p es) (i : Nat) (hi : es.length ≤ i) : Calls Try.prog 26 #[.pointer (some ⟨p, 0, none⟩), .int .i64 (i : Int)] w (EntR w 0 [] 7) := by
  obtain ⟨A, n, c, A', m, c', h1, h2, h3, h4, h5, h6, h7, h8, h9, h10⟩ := h
  have k1 : w.cell? ⟨p, 1, none⟩ = some (.slice A' m c') := h1.at_ 1
  have hm : m = es.length := by rw [← h5.len, ends_len]
  have i1 : m ≤ i := by omega
  have i2 : ((i : Int) < 0) = False := by simp
  clear h1 h2 h3 h4 h5 h6 h7 h8 h9 h10 hm hi
  go_enter Try.func26, Try.ntmps26
  go_wp2_with fail
  refine bodyPost_ret (v := .tuple #[.int .u8 0, .slice none 0 0, .int .i64 7]) (by simp [results, Try.results26, go_sem]) rfl ?_
  exact ⟨none, 0, 0, rfl, rb_nil _ _, By.nil, Below.refl _ _⟩
theorem oK_frame {k : Nat} {d : List Nat} (hd : d.length ≤ 8192) : oK (frame k d) = k ∧ oD (frame k d) = d ∧ oR (frame k d) = [] ∧ opE (frame k d) = 0 := by
  have := open_frame (kind := k) (data := d) [] hd
  rw [List.append_nil] at this
  obtain ⟨h1, h2, h3, h4⟩ := this
  unfold oK oD oR
  rw [if_pos h1, if_pos h1, if_pos h1]
  exact ⟨h2, h3, h4, h1⟩
set_option maxHeartbeats 4000000 in
set_option maxRecDepth 100000 in
theorem ent_at (p B : Nat) (F : Nat → Prop) (es : List Ent) (w : World) (h : JN w B F p es) (i : Nat) (x : Ent) (hi : es[i]? = some x) : Calls Try.prog 26 #[.pointer (some ⟨p, 0, none⟩), .int .i64 (i : Int)] w (EntR w x.1 x.2 0) := by
  have HJ := hide h
  obtain ⟨A, n, c, A', m, c', h1, h2, h3, h4, h5, h6, h7, h8, h9, h10⟩ := h
  have k0 : w.cell? ⟨p, 0, none⟩ = some (.slice A n c) := h1.at_ 0
  have k1 : w.cell? ⟨p, 1, none⟩ = some (.slice A' m c') := h1.at_ 1
  have hil : i < es.length := (List.getElem?_eq_some_iff.1 hi).1
  have hm : m = es.length := by rw [← h5.len, ends_len]
  have hn := h4.len
  have hle := h4.le
  obtain ⟨q, hq⟩ : ∃ q, jl es i = q := ⟨_, rfl⟩
  have hq5 : 5 ≤ q := by rw [← hq]; exact jl_ge es i
  have hqs := jl_succ hi
  have hql := jl_le es (i + 1)
  have hfl : (frame x.1 x.2).length = x.2.length + 9 := frame_len _ _
  have hx := h9.get hi
  obtain ⟨b, o, y, rfl, hy, hc⟩ := h5.rl.at_ (j := i) (by omega)
  obtain rfl : y = q + (x.2.length + 9) := by
    rw [ends_get hil, hqs, hq] at hy
    injection hy with hy; exact hy.symm
  obtain ⟨b0, o0, z, rfl, -, -, -⟩ := h4.br.at_ (j := 0) (by omega)
  have HF := hide (show BR w (some ⟨b0, o0 + q, none⟩) (x.2.length + 9) (frame x.1 x.2) from by
    have := h4.br.mid (i := q) (j := x.2.length + 9) (by omega)
    rw [← jb_entry hi, hqs, hq, Nat.add_sub_cancel_left]
    exact this)
  obtain ⟨f1, f2, f3, f4⟩ := oK_frame (k := x.1) hx.2.2
  have F1 := hide f1
  have F2 := hide f2
  have F3 := hide f3
  have F4 := hide f4
  have HBy := hide hx.2.1
  have hx8 := hx.2.2
  have HQ := hide hq
  unfold maxLen at hle
  rw [hq] at hqs
  rw [hqs] at hql
  generalize hL : x.2.length = L at *
  have iw : i < m := by omega
  have i1 : (i : Int) < (m : Int) := by omega
  have i2 : (0 : Int) ≤ (i : Int) := by omega
  have i3 : ¬ m ≤ i := by omega
  have i4 : (q : Int) ≤ ((q + (L + 9) : Nat) : Int) := by omega
  have i5 : ((q + (L + 9) : Nat) : Int) ≤ (c : Int) := by omega
  have i6 : (0 : Int) ≤ (q : Int) := by omega
  have i7 : (q : Int) ≤ (q : Int) + ((L : Int) + 9) := by omega
  have i8 : (q : Int) + ((L : Int) + 9) ≤ (c : Int) := by omega
  have t9 : ((q : Int) + ((L : Int) + 9)).toNat = q + (L + 9) := by omega
  have i9 : (0 : Int) ≤ (q : Int) + ((L : Int) + 9) := by omega
  have hle' : i ≤ es.length := by omega
  have hqc : ¬ c = q := by omega
  have KS : Hid (∀ w', Below w.heap.size w w' → w'.cell? ⟨p, 0, none⟩ = some (.slice (some ⟨b0, o0, none⟩) n c) ∧ w'.cell? ⟨p, 1, none⟩ = some (.slice (some ⟨b, o, none⟩) m c') ∧ w'.cell? ⟨b, o + i, none⟩ = some (.int .i64 ((q + (L + 9) : Nat) : Int))) := fun w' hb => ⟨(h1.below' hb).at_ 0, (h1.below' hb).at_ 1, (hb.cell (p := ⟨b, o + i, none⟩) (World.block_lt_of_cell? w _ hc)).trans hc⟩
  clear h1 h2 h3 h4 h5 h6 h7 h8 h9 hn hfl hx hy hi hq f1 f2 f3 f4 hL hm
  go_enter Try.func26, Try.ntmps26
  go_wp2_with fail
  go_region_held3 (fun w' => w'.cell? ⟨p, 0, none⟩ = some (.slice (some ⟨b0, o0, none⟩) n c) ∧ w'.cell? ⟨p, 1, none⟩ = some (.slice (some ⟨b, o, none⟩) m c') ∧ w'.cell? ⟨b, o + i, none⟩ = some (.int .i64 ((q + (L + 9) : Nat) : Int)))
    (exact KS.out _ (by ((repeat (first | (with_reducible assumption) | (with_reducible exact Below.refl _ _) | (with_reducible refine Below.drewS ?_) | (with_reducible refine Below.allocS ?_ _))); (first | done | fail))))
    (first
      | (go_at_call 37; (with_reducible refine (end_any p B i F es _ (HJ.out.below (by ((repeat (first | (with_reducible assumption) | (with_reducible exact Below.refl _ _) | (with_reducible refine Below.drewS ?_) | (with_reducible refine Below.allocS ?_ _))); (first | done | fail)))) hle' q HQ.out).mono ?_); rintro e w' ⟨rfl, rfl⟩)
      | (go_at_call 39; (with_reducible refine (open_any _ (L + 9) _ (frame x.1 x.2) _ (HF.out.below (by ((repeat (first | (with_reducible assumption) | (with_reducible exact Below.refl _ _) | (with_reducible refine Below.drewS ?_) | (with_reducible refine Below.allocS ?_ _))); (first | done | fail)))) (by omega) (by unfold maxLen; omega) (by omega) x.1 x.2 [] 0 F1.out F2.out F3.out F4.out).mono ?_); rintro e w' ⟨A1, n1, c1, A2, n2, c2, rfl, hr1, hr2, hb⟩; have E1 : Below w.heap.size w w' := Below.next (by ((repeat (first | (with_reducible assumption) | (with_reducible exact Below.refl _ _) | (with_reducible refine Below.drewS ?_) | (with_reducible refine Below.allocS ?_ _))); (first | done | fail))) hb))
  all_goals
    have R := hide hr1
    clear hr1 hr2 hb
    go_wp2_with fail
    refine bodyPost_ret (v := .tuple #[.int .u8 (x.1 : Int), .slice A1 n1 c1, .int .i64 0]) (by simp [results, Try.results26, go_sem]) rfl ?_
    exact ⟨A1, _, c1, rfl, R.out, HBy.out, E1⟩
end Go.Proofs.Ytjmpnpflmdpdkaa
