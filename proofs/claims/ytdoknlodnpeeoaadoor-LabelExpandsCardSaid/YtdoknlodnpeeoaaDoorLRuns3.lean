/- The contract of Runs. -/
import Derived.Test.YtdoknlodnpeeoaaDoorLRuns2
import Derived.Test.YtdoknlodnpeeoaaDoorShelf3
import Derived.Lib.Join
namespace Go.Proofs.YtdoknlodnpeeoaaDoor
open Go Go.RowKit Go.Lib

theorem tail_le : ∀ (us : List ByteArray), (∀ u ∈ us, u.size ≤ 20) → (Lib.joinTail [44, 32] (us.map (·.data.toList))).length ≤ 22 * us.length
  | [], _ => by simp [Lib.joinTail]
  | u :: us, h => by
    have h1 := tail_le us fun v hv => h v (List.mem_cons_of_mem _ hv)
    have h2 := h u List.mem_cons_self
    have e : u.data.toList.length = u.size := by rw [Array.length_toList]; rfl
    unfold Lib.joinTail at h1 ⊢
    simp only [List.map_cons, List.flatten_cons, List.length_append, List.length_cons, List.length_nil]
    omega
theorem join_le (us : List ByteArray) (h : ∀ u ∈ us, u.size ≤ 20) : (Lib.join (us.map (·.data.toList)) [44, 32]).length ≤ 22 * us.length := by
  rcases us with _ | ⟨u, us⟩
  · exact Nat.zero_le _
  · have h1 := tail_le us fun v hv => h v (List.mem_cons_of_mem _ hv)
    have h2 := h u List.mem_cons_self
    have e : u.data.toList.length = u.size := by rw [Array.length_toList]; rfl
    rw [List.map_cons, Lib.join_cons, List.length_append, List.length_cons]
    omega
theorem groupL_le (a b : Nat) (ha : a ≤ 9999) (hb : b ≤ 9999) : (groupL a b).length ≤ 20 := by
  have z1 := dec_len4 4 a (by omega)
  have z2 := dec_len4 4 b (by omega)
  unfold groupL
  split
  · omega
  · simp only [List.length_append, List.length_cons]; omega
theorem runsG_size : ∀ (f : Nat) (xs : List Int), (∀ x ∈ xs, 1 ≤ x ∧ x < 1000) → ∀ u ∈ runsG f xs, u.size ≤ 20
  | 0, _, _ => fun u hu => by cases hu
  | f + 1, [], _ => fun u hu => by cases hu
  | f + 1, x :: l, h => fun u hu => by
    have hx := h x List.mem_cons_self
    rcases List.mem_cons.1 hu with rfl | hu
    · rw [strB_size]
      have hl := consL_last x l
      have hb := h _ (List.mem_of_getElem? hl)
      exact groupL_le _ _ (by omega) (by omega)
    · exact runsG_size f _ (fun y hy => h y (List.mem_cons_of_mem _ (List.mem_of_mem_drop hy))) u hu
theorem runsG_len : ∀ (f : Nat) (xs : List Int), (runsG f xs).length ≤ f
  | 0, _ => Nat.le_refl _
  | f + 1, [] => Nat.zero_le _
  | f + 1, x :: l => by
    have := runsG_len f (l.drop (consL x l))
    show (_ :: runsG f _).length ≤ _
    simp only [List.length_cons]; omega
/-- the text of the runs -/
def runsT (xs : List Int) : ByteArray := joinT (runsG xs.length xs)
theorem join_any (W : World) (B : Nat) (As : Option Addr) (q cs : Nat) (us : List ByteArray) (h : SR W B As q cs us) (hq : us.length ≤ 999) (hu : ∀ u ∈ us, u.size ≤ 20) (S : ByteArray) (hS : joinT us = S) :
    Calls Tryd.prog 43 #[.slice As q cs, .string ⟨#[44, 32]⟩] W fun e w' => e = .returned (.string S) ∧ Below W.heap.size W w' := by
  have hl := h.len
  by_cases hn : 0 < q
  · obtain ⟨g, rfl, hg, hc⟩ := h.at_ hn
    have hle := h.le
    have hj := join_le us hu
    subst hl
    refine (Tryd.strings_Join g 0 cs us ⟨#[44, 32]⟩ W hc hg (by omega) hle.1 ?_).mono ?_
    · show (Lib.join (us.map (·.data.toList)) [44, 32]).length ≤ _
      omega
    · rintro e w' ⟨rfl, hb⟩
      exact ⟨by rw [← hS]; rfl, hb⟩
  · obtain rfl : q = 0 := by omega
    obtain rfl : us = [] := List.eq_nil_of_length_eq_zero hl
    refine (Tryd.strings_Join_none As cs ⟨#[44, 32]⟩ W).mono ?_
    rintro e w' ⟨rfl, rfl⟩
    exact ⟨by rw [← hS]; rfl, Below.refl _ _⟩
set_option maxHeartbeats 1000000 in
theorem runs_bad (A : Option Addr) (m c : Nat) (xs : List Int) (w : World) (hx : IL w A m xs) (hm : m ≤ maxLen) (hr : setB 1000 1 xs = false) :
    Calls Tryd.prog 20 #[.slice A m c] w fun e w' => e = .returned (.tuple #[.string ⟨#[]⟩, .int .i64 1]) ∧ Below w.heap.size w w' := by
  have HX := hide hx
  have HR := hide hr
  have HM := hide hm
  clear hx hr hm
  go_enter Tryd.func20, Tryd.ntmps20
  go_wp2_with fail
  refine (isasc_any A m c xs w HX.out HM.out false HR.out).mono ?_
  rintro e w1 ⟨rfl, rfl⟩
  go_wp2_with fail
  refine bodyPost_ret (v := .tuple #[.string ⟨#[]⟩, .int .i64 1]) (by simp [results, Tryd.results20, go_sem]) rfl ?_
  exact ⟨rfl, Below.refl _ _⟩
theorem runs_any (A : Option Addr) (m c : Nat) (xs : List Int) (w : World) (hx : IL w A m xs) (hmc : m ≤ c) (hc : c ≤ maxLen) (hT : Lw w) (S : ByteArray) (r : Int) (hS : (setB 1000 1 xs = true ∧ runsT xs = S ∧ r = 0) ∨ (setB 1000 1 xs = false ∧ S = ⟨#[]⟩ ∧ r = 1)) :
    Calls Tryd.prog 20 #[.slice A m c] w fun e w' => e = .returned (.tuple #[.string S, .int .i64 r]) ∧ Below w.heap.size w w' := by
  rcases hS with ⟨hr, hS, rfl⟩ | ⟨hr, rfl, rfl⟩
  · have hl := hx.len
    have hin := setB_in 1000 xs 1 hr
    have hlen : m ≤ 999 := by
      rcases setB_len 1000 xs 1 hr with h | h
      · rw [h] at hl; simp at hl; omega
      · omega
    refine runs_ok A m c xs w hx hmc hc hT hr S fun W As q cs h => ?_
    refine join_any W _ As q cs _ h (Nat.le_trans (runsG_len m xs) hlen) (runsG_size m xs hin) S ?_
    rw [← hS]
    unfold runsT
    rw [hl]
  · exact runs_bad A m c xs w hx (Nat.le_trans hmc hc) hr
end Go.Proofs.YtdoknlodnpeeoaaDoor
