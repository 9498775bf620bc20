/- The program's journal: New, Len, end, Bytes. -/
import Derived.Test.YtjmpnpflmdpdkaaJQ
import Derived.Lib.SlBytesConst
namespace Go.Proofs.Ytjmpnpflmdpdkaa
open Go Go.RowKit FM

theorem litC {w W : World} {vs : Array Value} {fr : Nat × Nat} (xs : List Nat) {n : Nat} (hW : w.alloc (.cells vs 5 fr) = W) (hv : vs = (cells .u8 xs).toArray) (hn : xs.length = n) (hb : By xs) : Below w.heap.size w W ∧ BR W (some ⟨w.heap.size, 0, none⟩) n xs ∧ W.heap.size = w.heap.size + 1 := by
  subst hW hv
  refine ⟨(Below.refl _ _).alloc (Nat.le_refl _) _, ⟨⟨hn, fun _ => ⟨w.heap.size, 0, rfl, fun j x hx => ?_⟩⟩, hb⟩, by simp⟩
  rw [Nat.zero_add, cell_of_row _ w.heap.size j _ _ fr (heap_alloc_new w _), List.getElem?_toArray, cells_getElem?, hx]
  rfl
theorem jn_new {w W W2 : World} (h1 : Below w.heap.size w W) (h2 : BR W (some ⟨w.heap.size, 0, none⟩) 5 coin) (h3 : W.heap.size = w.heap.size + 1) (hW : W.alloc (.cells #[.slice (some ⟨w.heap.size, 0, none⟩) 5 5, .slice none 0 0] 57) = W2) :
    JN W2 w.heap.size (Plus Non w W2) (w.heap.size + 1) [] ∧ Below w.heap.size w W2 := by
  obtain ⟨b1, b2, b3⟩ := boxC hW
  refine ⟨⟨some ⟨w.heap.size, 0, none⟩, 5, 5, none, 0, 0, by rw [← h3]; exact b2, .inr (by omega), fun k hk => ?_, ⟨.inr ⟨(h2.below b1).1, rfl, rfl⟩, coin_by, fun g hg => ?_⟩, RI.nil_, ?_, blk_none, fun _ _ => blk_none, OkE.nil, by rw [jb_nil]; decide⟩, h1.trans (b1.mono h1.size)⟩
  · rcases hk with hk | hk
    · exact hk.elim
    · omega
  · have := blk_some.1 hg; subst this
    exact ⟨.inr (by omega), by omega⟩
  · intro h; have := blk_some.1 h; omega
set_option maxHeartbeats 1000000 in
theorem new_any (w : World) : Calls Try.prog 12 #[] w fun e w' => ∃ p, e = .returned (.pointer (some ⟨p, 0, none⟩)) ∧ JN w' w.heap.size (Plus Non w w') p [] ∧ Below w.heap.size w w' := by
  have kc := fun (w : World) (C : Array Value) (n c : Nat) => Lib.run_convert_bytes_const (P := Try.prog) w 31 5 C n c Try.underlying31 Try.underlying5
  go_enter Try.func12, Try.ntmps12
  go_wp2_with fail
  go_ret
  obtain ⟨a1, a2, a3⟩ := litC coin (rfl : w.alloc (.cells #[.int .u8 67, .int .u8 79, .int .u8 73, .int .u8 78, .int .u8 49] 5 (5, 6)) = _) rfl rfl coin_by
  exact ⟨_, rfl, jn_new a1 a2 a3 rfl⟩
theorem len_nil (w : World) : Calls Try.prog 21 #[.pointer none] w fun e w' => e = .returned (.int .i64 0) ∧ w = w' := by
  go_enter Try.func21, Try.ntmps21
  go_wp2_with fail
  go_ret
  exact ⟨rfl, rfl⟩
theorem len_any (p B : Nat) (F : Nat → Prop) (es : List Ent) (w : World) (h : JN w B F p es) : Calls Try.prog 21 #[.pointer (some ⟨p, 0, none⟩)] w fun e w' => e = .returned (.int .i64 (es.length : Int)) ∧ w = w' := by
  obtain ⟨A, n, c, A', m, c', h1, h2, h3, h4, h5, h6, h7, h8, h9, h10⟩ := h
  have k0 : w.cell? ⟨p, 0, none⟩ = some (.slice A n c) := h1.at_ 0
  have k1 : w.cell? ⟨p, 1, none⟩ = some (.slice A' m c') := h1.at_ 1
  have HM := hide (h5.len)
  clear h1 h2 h3 h4 h5 h6 h7 h8 h9 h10
  go_enter Try.func21, Try.ntmps21
  go_wp2_with fail
  go_ret
  refine ⟨?_, rfl⟩
  have := HM.out
  rw [ends_len] at this
  rw [this]
  rfl
theorem end_zero (v : Value) (w : World) : Calls Try.prog 37 #[v, .int .i64 0] w fun e w' => e = .returned (.int .i64 5) ∧ w = w' := by
  go_enter Try.func37, Try.ntmps37
  go_wp2_with fail
  go_ret
  exact ⟨rfl, rfl⟩
theorem end_any (p B k : Nat) (F : Nat → Prop) (es : List Ent) (w : World) (h : JN w B F p es) (hk : k ≤ es.length) (q : Nat) (hq : jl es k = q) : Calls Try.prog 37 #[.pointer (some ⟨p, 0, none⟩), .int .i64 (k : Int)] w fun e w' => e = .returned (.int .i64 (q : Int)) ∧ w = w' := by
  rcases Nat.eq_zero_or_pos k with hz | hz
  · subst hz
    rw [jl_zero] at hq; subst hq
    exact end_zero _ w
  obtain ⟨A, n, c, A', m, c', h1, h2, h3, h4, h5, h6, h7, h8, h9, h10⟩ := h
  have k0 : w.cell? ⟨p, 0, none⟩ = some (.slice A n c) := h1.at_ 0
  have k1 : w.cell? ⟨p, 1, none⟩ = some (.slice A' m c') := h1.at_ 1
  have hm : m = es.length := by rw [← h5.len, ends_len]
  obtain ⟨i, rfl⟩ : ∃ i, k = i + 1 := ⟨k - 1, by omega⟩
  obtain ⟨b, o, x, rfl, hx, hc⟩ := h5.rl.at_ (j := i) (by omega)
  obtain rfl : x = q := by
    rw [ends_get (by omega), hq] at hx
    injection hx with hx; exact hx.symm
  have hml := h5.le
  unfold maxLen at hml
  have hi : i < m := by omega
  have ei : ((i + 1 : Nat) : Int) - 1 = (i : Int) := by omega
  have wi : IntKind.i64.wrap (i : Int) = (i : Int) := IntWalk.i64_in _ (by omega)
  have d0 : ((i : Int) + 1 == 0) = false := by simp; omega
  have d1 : (((i + 1 : Nat) : Int) == 0) = false := by simp; omega
  clear h1 h2 h3 h4 h5 h6 h7 h8 h9 h10 hx hm hq hk hz
  go_enter Try.func37, Try.ntmps37
  go_wp2_with fail
  go_ret
  exact ⟨rfl, rfl⟩
theorem bytes_nil (w : World) : Calls Try.prog 18 #[.pointer none] w fun e w' => e = .returned (.slice none 0 0) ∧ w = w' := by
  go_enter Try.func18, Try.ntmps18
  go_wp2_with fail
  go_ret
  exact ⟨rfl, rfl⟩
theorem jbytes_any (p B : Nat) (F : Nat → Prop) (es : List Ent) (w : World) (h : JN w B F p es) (N : Nat) (hN : (jb es).length = N) : Calls Try.prog 18 #[.pointer (some ⟨p, 0, none⟩)] w fun e w' => ∃ A c, e = .returned (.slice A N c) ∧ RB w' w.heap.size A N c (jb es) ∧ Below w.heap.size w w' := by
  obtain ⟨A, n, c, A', m, c', h1, h2, h3, h4, h5, h6, h7, h8, h9, h10⟩ := h
  have k0 : w.cell? ⟨p, 0, none⟩ = some (.slice A n c) := h1.at_ 0
  have k1 : w.cell? ⟨p, 1, none⟩ = some (.slice A' m c') := h1.at_ 1
  have hn := h4.len
  have h5' := jb_ge es
  obtain ⟨b, o, x, rfl, -, -, -⟩ := h4.br.at_ (j := 0) (by omega)
  obtain rfl : n = N := by omega
  have HR := hide h4.br
  clear h1 h2 h3 h4 h5 h6 h7 h8 h9
  go_enter Try.func18, Try.ntmps18
  go_wp2_with fail
  (with_reducible refine (clone_any _ _ c _ _ HR.out (by omega)).mono ?_)
  rintro e w' ⟨A2, c2, rfl, hr, hb⟩
  go_wp2_with fail
  go_ret
  exact ⟨A2, c2, rfl, hr, hb⟩
end Go.Proofs.Ytjmpnpflmdpdkaa
