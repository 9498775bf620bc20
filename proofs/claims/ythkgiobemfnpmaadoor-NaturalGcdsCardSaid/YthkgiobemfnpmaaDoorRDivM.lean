/- Division by the reference: plain mathematics, and words for its memory. -/
import Derived.Test.YthkgiobemfnpmaaDoorRPow
import Derived.Test.YthkgiobemfnpmaaDoorRSub
import Derived.Test.YthkgiobemfnpmaaDoorDivS
import Derived.Deep.RegionHeld3
import Derived.Deep.CutRange
namespace Go.Proofs.YthkgiobemfnpmaaDoor
open Go Go.RowKit

theorem dig_get (b : Nat) (hb : 2 ≤ b) : ∀ (k v x : Nat), (dig b v)[k]? = some x → x = v / b ^ k % b
  | k, v, x, h => by
    by_cases h0 : v = 0
    · subst h0; rw [dig_zero] at h; cases h
    · rw [dig_pos b hb v h0] at h
      cases k with
      | zero => simp at h; rw [Nat.pow_zero, Nat.div_one]; exact h.symm
      | succ k =>
        rw [List.getElem?_cons_succ] at h
        have := dig_get b hb k (v / b) x h
        rw [this, Nat.div_div_eq_div_mul, Nat.pow_succ, Nat.mul_comm (b ^ k) b]
theorem dig_len_eq {v n : Nat} (h1 : B9 ^ n ≤ v) (h2 : v < B9 ^ (n + 1)) : (dig B9 v).length = n + 1 := by
  have e1 := (dig_length_le B9 (by decide) (n + 1) v).2 h2
  have e2 : ¬ (dig B9 v).length ≤ n := fun h => by
    have := (dig_length_le B9 (by decide) n v).1 h
    omega
  omega
theorem dig_len_ge {v n : Nat} (h : (dig B9 v).length = n + 1) : B9 ^ n ≤ v ∧ v < B9 ^ (n + 1) := by
  refine ⟨?_, (dig_length_le B9 (by decide) _ _).1 (by omega)⟩
  rcases Nat.lt_or_ge v (B9 ^ n) with h1 | h1
  · have := (dig_length_le B9 (by decide) n v).2 h1
    omega
  · exact h1
/-- the greatest limb -/
theorem dig_top {v n x : Nat} (h : (dig B9 v).length = n + 1) (hx : (dig B9 v)[n]? = some x) : x = v / B9 ^ n ∧ 1 ≤ x := by
  obtain ⟨h1, h2⟩ := dig_len_ge h
  have e := dig_get B9 (by decide) n v x hx
  have e2 : v / B9 ^ n < B9 := (Nat.div_lt_iff_lt_mul (Nat.pow_pos (by decide))).2 (by rw [Nat.pow_succ, Nat.mul_comm] at h2; exact h2)
  rw [Nat.mod_eq_of_lt e2] at e
  refine ⟨e, ?_⟩
  rw [e]
  exact (Nat.le_div_iff_mul_le (Nat.pow_pos (by decide))).2 (by omega)
/-- the factor, and what it makes of the divisor -/
theorem factor_fits {v n x f : Nat} (h : (dig B9 v).length = n + 1) (hx : (dig B9 v)[n]? = some x) (hf : 1000000000 / (x + 1) = f) : 1 ≤ f ∧ f < 1000000000 ∧ (dig B9 (v * f)).length = n + 1 := by
  obtain ⟨e1, e2⟩ := dig_top h hx
  obtain ⟨h1, h2⟩ := dig_len_ge h
  have hxb : x < 1000000000 := dig_lt B9 (by decide) v x (List.mem_of_getElem? hx)
  have hf1 : 1 ≤ f := by rw [← hf]; exact (Nat.le_div_iff_mul_le (by omega)).2 (by omega)
  have hf2 : f * (x + 1) ≤ 1000000000 := by rw [← hf]; exact Nat.div_mul_le_self _ _
  have hv : v < (x + 1) * B9 ^ n := by
    have := Nat.lt_succ_iff.1 (Nat.lt_succ_of_le (Nat.le_of_eq e1.symm))
    have h3 := Nat.div_add_mod v (B9 ^ n)
    have h4 := Nat.mod_lt v (Nat.pow_pos (n := n) (show 0 < B9 by decide))
    rw [← e1] at h3
    rw [Nat.add_mul, Nat.one_mul, Nat.mul_comm x]
    omega
  refine ⟨hf1, ?_, dig_len_eq ?_ ?_⟩
  · have : f * 2 ≤ f * (x + 1) := Nat.mul_le_mul_left _ (by omega)
    omega
  · have : v * 1 ≤ v * f := Nat.mul_le_mul_left _ hf1
    omega
  · have h5 : v * f < (x + 1) * B9 ^ n * f := Nat.mul_lt_mul_of_pos_right hv hf1
    have h6 : (x + 1) * B9 ^ n * f = f * (x + 1) * B9 ^ n := by rw [Nat.mul_comm _ f, Nat.mul_assoc]
    have h7 : f * (x + 1) * B9 ^ n ≤ 1000000000 * B9 ^ n := Nat.mul_le_mul_right _ hf2
    rw [Nat.pow_succ, Nat.mul_comm (B9 ^ n)]
    show v * f < 1000000000 * B9 ^ n
    omega
/-- a guess is never too small -/
theorem guess_ge {R y top n : Nat} (hy : y / B9 ^ n = top) (ht : 1 ≤ top) (hR : R / y ≤ 999999999) : R / y ≤ min (R / B9 ^ n / top) 999999999 := by
  refine Nat.le_min.2 ⟨?_, hR⟩
  rw [Nat.div_div_eq_div_mul]
  refine Nat.div_le_div_left ?_ (Nat.mul_pos (Nat.pow_pos (by decide)) ht)
  rw [← hy]
  exact Nat.mul_div_le y _
theorem div_small {R y n : Nat} (hR : R < B9 ^ n) (hy : B9 ^ n ≤ y) : R / y = 0 := Nat.div_eq_of_lt (by omega)

/-- a natural of a value in a box of its own -/
def Boxed (W : World) (u : Nat) (s : Value) (wx : World) : Prop :=
  ∃ (g : Nat) (A : Option Addr) (n c : Nat), s = .pointer (some ⟨g, 0, none⟩) ∧ Box wx g #[.slice A n c] 24 ∧ RL wx .u32 A n (dig B9 u) ∧ n ≤ c ∧ c ≤ maxLen ∧ W.heap.size ≤ g ∧ Below W.heap.size W wx
theorem boxed_new {W w7 : World} {u : Nat} {A : Option Addr} {n c : Nat} (E : Below W.heap.size W w7) (h : RL w7 .u32 A n (dig B9 u)) (hn : n ≤ c) (hc : c ≤ maxLen) :
    Boxed W u (.pointer (some ⟨w7.heap.size, 0, none⟩)) (w7.alloc (.cells #[.slice A n c] 24)) :=
  ⟨w7.heap.size, A, n, c, rfl, Box.new _ _ _, h.below ((Below.refl _ _).alloc (Nat.le_refl _) _), hn, hc, E.size, E.alloc E.size _⟩
theorem boxed_old {W v w7 : World} {u : Nat} {A S : Option Addr} {n c k l : Nat} (E : Below W.heap.size W v) (hx : Below (v.alloc (.cells #[.slice S k l] 24)).heap.size (v.alloc (.cells #[.slice S k l] 24)) w7) (h : RL w7 .u32 A n (dig B9 u)) (hn : n ≤ c) (hc : c ≤ maxLen) :
    Boxed W u (.pointer (some ⟨v.heap.size, 0, none⟩)) (w7.setCell ⟨v.heap.size, 0, none⟩ (.slice A n c)) := by
  have b : Box w7 v.heap.size #[.slice S k l] 24 := (Box.new v _ _).below' hx
  exact ⟨v.heap.size, A, n, c, rfl, b.put _, h.put b _, hn, hc, E.size, ((E.alloc E.size _).trans (hx.mono (by simp; have := E.size; omega))).setCell E.size _⟩
theorem fin_boxDM {w W : World} {g g' : Nat} {S S' A A' : Option Addr} {m d m' d' n c n' c' u v : Nat} {t t' : TypeId} {er : Int} (hb : Below w.heap.size w W) (b : Box W g #[.slice S m d] t) (b' : Box W g' #[.slice S' m' d'] t') (hne : g' ≠ g) (hg : w.heap.size ≤ g) (hg' : w.heap.size ≤ g')
    (hr : RL W .u32 A n (dig B9 u)) (hn : n ≤ c) (hc : c ≤ maxLen) (hr' : RL W .u32 A' n' (dig B9 v)) (hn' : n' ≤ c') (hc' : c' ≤ maxLen) :
    GivesDM u v er w (.returned (.tuple #[.agg #[.slice A n c], .agg #[.slice A' n' c'], .int .i64 er])) ((W.setCell ⟨g, 0, none⟩ (.slice A n c)).setCell ⟨g', 0, none⟩ (.slice A' n' c')) := by
  have b2 := b'.far (p := ⟨g, 0, none⟩) hne (.slice A n c)
  exact ⟨A, n, c, A', n', c', rfl, (hr.put b _).put b2 _, hn, hc, (hr'.put b _).put b2 _, hn', hc', (hb.setCell hg _).setCell hg' _⟩
theorem step_append_rl {P : Program} {w : World} {ops : Array Oper} {o : Oper} {a : Act} {K : Act → World → Prop} {Q : Exit → Act → World → Prop} {E : Prop} (hgd : o.guard = none) (s x : Operand) (t : TypeId)
    (ho : o.op = .call { callee := .builtin .append, args := #[s, x], argTypes := #[t, t] })
    (base : Nat) (e : TypeId) (k : IntKind) (bytes : Nat) (ht : P.underlying t = some (.slice e)) (h2 : (P.info? e).map (fun i => (i.zero, i.size, i.bytes)) = some (some (.int k 0), 1, bytes))
    (S : Option Addr) (n cs : Nat) (xs : List Nat) (hs : a.eval s = .slice S n cs) (hown : Row w base k e S n cs xs)
    (A : Option Addr) (m c : Nat) (news : List Nat) (hx : a.eval x = .slice A m c) (hr : RL w k A m news) (hby : bytes ≤ 8) (p : Nat) (hp : p = n + m) (hN : p ≤ 1099511627776) (hbase : base ≤ w.heap.size)
    (h : ∀ A' c' w', Row w' base k e A' p c' (xs ++ news) → Below base w w' → w.heap.size ≤ w'.heap.size → K (a.put o.dst (.slice A' p c')) w') :
    if Region.wanted o (yielded ops a.tmps) = true then Oper.wp P o a w K Q else E := by
  have hw : Region.wanted o (yielded ops a.tmps) = true := by simp [Region.wanted, hgd]
  rw [if_pos hw]
  subst hp
  obtain ⟨A', c', w', hrun, h2, h3, h4⟩ := run_append_rl (P := P) w base t o.type e k bytes ht h2 S n cs xs hown A m c news hr hby hN hbase
  unfold Oper.wp execOp
  simp only [ho, resolve, invoke, builtin, Sem.run_bind, Sem.run_pure, Result.andThen_ok, List.map_toArray, List.map_cons, List.map_nil, hs, hx, hrun]
  exact h A' c' w' h2 h3 h4
theorem Row.one (w : World) (k : IntKind) (t : TypeId) {v : Int} {x : Nat} (e : v = (x : Int)) : Row (w.alloc (.cells #[.int k v] t)) w.heap.size k t (some ⟨w.heap.size, 0, none⟩) 1 1 [x] := by
  subst e
  exact World.ownsRow_lit (size := 1) w #[.int k x] 1 (Nat.le_refl _) (by simp [maxLen]) (by simp)
end Go.Proofs.YthkgiobemfnpmaaDoor
