/- Rows of bytes, of ints, of entries with a footprint; a journal in memory. -/
import Derived.Test.YtjmpnpflmdpdkaaJW
namespace Go.Proofs.Ytjmpnpflmdpdkaa
open Go Go.RowKit FM

/-- a row of bytes in the footprint F: the call's own, or five bytes of a constant -/
def RQ (w : World) (F : Nat → Prop) (A : Option Addr) (n c : Nat) (xs : List Nat) : Prop :=
  (w.ownsRow 0 5 1 (.slice A n c) n (cells .u8 xs) ∨ (RL w .u8 A n xs ∧ n = 5 ∧ c = 5)) ∧ By xs ∧ (∀ g, Blk A g → F g ∧ g < w.heap.size)
/-- a row of ints in the footprint F -/
def RI (w : World) (F : Nat → Prop) (A : Option Addr) (n c : Nat) (us : List Nat) : Prop :=
  w.ownsRow 0 3 1 (.slice A n c) n (cells .i64 us) ∧ (∀ g, Blk A g → F g ∧ g < w.heap.size)
section
variable {w w' : World} {F G H : Nat → Prop} {A : Option Addr} {n c : Nat} {xs us : List Nat}
theorem RQ.br (h : RQ w F A n c xs) : BR w A n xs := ⟨by rcases h.1 with h1 | h1; exact rl_of_own h1; exact h1.1, h.2.1⟩
theorem RQ.len (h : RQ w F A n c xs) : xs.length = n := h.br.len
theorem RQ.le (h : RQ w F A n c xs) : n ≤ c ∧ c ≤ maxLen := by
  rcases h.1 with h1 | h1
  · exact owns_le h1
  · obtain ⟨_, rfl, rfl⟩ := h1; exact ⟨Nat.le_refl _, by simp [maxLen]⟩
theorem RQ.mono (h : RQ w F A n c xs) (hm : ∀ k, F k → G k) : RQ w G A n c xs := ⟨h.1, h.2.1, fun g hg => ⟨hm g (h.2.2 g hg).1, (h.2.2 g hg).2⟩⟩
theorem RQ.turn (h : RQ w F A n c xs) (t : Turn H w w') (hs : ∀ g, Blk A g → ¬ H g) : RQ w' F A n c xs := by
  refine ⟨?_, h.2.1, fun g hg => ⟨(h.2.2 g hg).1, Nat.lt_of_lt_of_le (h.2.2 g hg).2 t.size⟩⟩
  rcases h.1 with h1 | h1
  · exact .inl (t.owns h1 hs)
  · exact .inr ⟨t.rl h1.1 (fun _ => hs), h1.2⟩
theorem RQ.take (h : RQ w F A n c xs) {k : Nat} (h5 : 5 ≤ k) (hk : k ≤ n) : RQ w F A k c (xs.take k) := by
  refine ⟨?_, h.2.1.take k, h.2.2⟩
  rcases h.1 with h1 | ⟨h1, h2, h3⟩
  · have := owns_take h1 hk
    rw [Nat.mul_one] at this
    refine .inl ?_
    unfold cells at this ⊢
    rw [List.map_take]; exact this
  · obtain rfl : k = n := by omega
    refine .inr ⟨?_, h2, h3⟩
    rw [List.take_of_length_le (by rw [h1.len]; exact Nat.le_refl _)]
    exact h1
theorem RI.len (h : RI w F A n c us) : us.length = n := by have := h.1.1; rw [cells_length] at this; omega
theorem RI.le (h : RI w F A n c us) : n ≤ c ∧ c ≤ maxLen := owns_le h.1
theorem RI.mono (h : RI w F A n c us) (hm : ∀ k, F k → G k) : RI w G A n c us := ⟨h.1, fun g hg => ⟨hm g (h.2 g hg).1, (h.2 g hg).2⟩⟩
theorem RI.turn (h : RI w F A n c us) (t : Turn H w w') (hs : ∀ g, Blk A g → ¬ H g) : RI w' F A n c us := ⟨t.owns h.1 hs, fun g hg => ⟨(h.2 g hg).1, Nat.lt_of_lt_of_le (h.2 g hg).2 t.size⟩⟩
theorem RI.take (h : RI w F A n c us) {k : Nat} (hk : k ≤ n) : RI w F A k c (us.take k) := by
  refine ⟨?_, h.2⟩
  have := owns_take h.1 hk
  rw [Nat.mul_one] at this
  unfold cells at this ⊢
  rw [List.map_take]; exact this
theorem RI.rl (h : RI w F A n c us) : RL w .i64 A n us := rl_of_own h.1
theorem RI.nil_ : RI w F none 0 0 [] := ⟨World.ownsRow_nil _ _ _ _, fun _ hg => (blk_none hg).elim⟩
end
theorem run_append_rq {P : Program} (w : World) (F : Nat → Prop) (t ty : TypeId) (ht : P.underlying t = some (.slice 5)) (h2 : (P.info? 5).map (fun i => (i.zero, i.size, i.bytes)) = some (some (.int .u8 0), 1, 1))
    (S : Option Addr) (n cs : Nat) (xs : List Nat) (hS : RQ w F S n cs xs) (A : Option Addr) (m c : Nat) (ys : List Nat) (hA : BR w A m ys) (hm : 0 < m) (hN : n + m ≤ 1000000) :
    ∃ A' c' w', (Builtin.append_ #[t, t] ty #[.slice S n cs, .slice A m c]).run P w = .ok (.slice A' (n + m) c') w' ∧ RQ w' (Plus F w w') A' (n + m) c' (xs ++ ys) ∧ Turn (Blk S) w w' ∧ (∀ g, Blk A' g → Blk S g ∨ (w.heap.size ≤ g ∧ g < w'.heap.size)) := by
  rcases hS.1 with h1 | ⟨h1, hn5, hc5⟩
  · obtain ⟨A', c', w', hrun, r1, r2, r3⟩ := run_append_ow (P := P) w 0 t ty 5 (.int .u8 0) 1 1 ht h2 rfl (by decide) S n cs _ h1 A m c (cells .u8 ys) (by rw [cells_length, hA.len]; omega)
      (fun hm => by
        obtain ⟨b, o, rfl, hc⟩ := hA.1.2 hm
        refine ⟨_, rfl, fun j u hu => ?_⟩
        rw [cells_getElem?] at hu
        obtain ⟨x, hx, rfl⟩ := Option.map_eq_some_iff.1 hu
        have ea : (⟨b, o, none⟩ : Addr).add j = ⟨b, o + j, none⟩ := by unfold Addr.add; split <;> simp_all
        rw [ea]; exact hc j x hx) (cells_one _ _) (by decide) hN (Nat.zero_le _)
    refine ⟨A', c', w', hrun, ⟨.inl (by rw [cells_append]; exact r1), hS.2.1.app hA.2, fun g hg => ?_⟩, r2, r3⟩
    rcases r3 g hg with h | h
    · exact ⟨.inl (hS.2.2 g h).1, Nat.lt_of_lt_of_le (hS.2.2 g h).2 r2.size⟩
    · exact ⟨.inr h, h.2⟩
  · obtain ⟨A', c', w', hrun, r1, r2, r3⟩ := run_append_gr (P := P) w 0 t ty 5 .u8 1 ht h2 S n cs xs h1 (by omega) A m c ys hA.1 hm (by omega) (by decide) hN (Nat.zero_le _)
    exact ⟨A', c', w', hrun, ⟨.inl r1, hS.2.1.app hA.2, fun g hg => ⟨.inr (r3 g hg), (r3 g hg).2⟩⟩, Turn.of r2, fun g hg => .inr (r3 g hg)⟩
section
variable {P : Program} {w : World} {ops : Array Oper} {rest : List Oper} {o : Oper} {a : Act} {Q : Exit → Act → World → Prop}
theorem wpList_append_rq (hgd : o.guard = none) (s x : Operand) (t : TypeId)
    (ho : o.op = .call { callee := .builtin .append, args := #[s, x], argTypes := #[t, t] }) (ht : P.underlying t = some (.slice 5)) (h2 : (P.info? 5).map (fun i => (i.zero, i.size, i.bytes)) = some (some (.int .u8 0), 1, 1))
    (F : Nat → Prop) (S : Option Addr) (n cs : Nat) (xs : List Nat) (hs : a.eval s = .slice S n cs) (hS : RQ w F S n cs xs) (A : Option Addr) (m c : Nat) (ys : List Nat) (hx : a.eval x = .slice A m c) (hA : BR w A m ys) (hm : 0 < m) (p : Nat) (hp : p = n + m) (hN : p ≤ 1000000)
    (hK : ∀ A' c' w', RQ w' (Plus F w w') A' p c' (xs ++ ys) → Turn (Blk S) w w' → (∀ g, Blk A' g → Blk S g ∨ (w.heap.size ≤ g ∧ g < w'.heap.size)) → wpList P ops Q rest (a.put o.dst (.slice A' p c')) w') : wpList P ops Q (o :: rest) a w :=
  wpList_plain hgd fun K hk => by
    subst hp
    obtain ⟨A', c', w', hrun, h3, h4, h5⟩ := run_append_rq (P := P) w F t o.type ht h2 S n cs xs hS A m c ys hA hm hN
    unfold Oper.wp execOp
    simp only [ho, resolve, invoke, builtin, Sem.run_bind, Sem.run_pure, Result.andThen_ok, List.map_toArray, List.map_cons, List.map_nil, hs, hx, hrun]
    exact hk _ _ (hK _ _ _ h3 h4 h5)
/-- append of one element that lies in a block of its own -/
theorem run_append_one {P : Program} (w : World) (t ty e : TypeId) (z : Value) (size bytes : Nat) (ht : P.underlying t = some (.slice e)) (h2 : (P.info? e).map (fun i => (i.zero, i.size, i.bytes)) = some (some z, size, bytes)) (hzs : z.cells.size = size) (hsz : 0 < size) (hby : bytes ≤ 32)
    (S : Option Addr) (n cs : Nat) (vs : List Value) (hS : w.ownsRow 0 e size (.slice S n cs) n vs) (b c : Nat) (te : TypeId) (us : List Value) (hb : Box w b us.toArray te) (hl : us.length = size) (h1 : ∀ u ∈ us, u.oneCell' = true) (hN : n + 1 ≤ 1000000) :
    ∃ A' c' w', (Builtin.append_ #[t, t] ty #[.slice S n cs, .slice (some ⟨b, 0, none⟩) 1 c]).run P w = .ok (.slice A' (n + 1) c') w' ∧ w'.ownsRow 0 e size (.slice A' (n + 1) c') (n + 1) (vs ++ us) ∧ Turn (Blk S) w w' ∧ (∀ g, Blk A' g → Blk S g ∨ (w.heap.size ≤ g ∧ g < w'.heap.size)) :=
  run_append_ow (P := P) w 0 t ty e z size bytes ht h2 hzs hsz S n cs vs hS (some ⟨b, 0, none⟩) 1 c us (by rw [hl]; omega) (fun _ => ⟨_, rfl, fun j u hu => by
    have ea : (⟨b, 0, none⟩ : Addr).add j = ⟨b, j, none⟩ := by unfold Addr.add; split <;> simp_all
    rw [ea, hb.at_, List.getElem?_toArray]; exact hu⟩) h1 hby hN (Nat.zero_le _)
theorem wp_append_one {K : Act → World → Prop} (s x : Operand) (t : TypeId)
    (ho : o.op = .call { callee := .builtin .append, args := #[s, x], argTypes := #[t, t] }) (e : TypeId) (z : Value) (size bytes : Nat) (ht : P.underlying t = some (.slice e)) (h2 : (P.info? e).map (fun i => (i.zero, i.size, i.bytes)) = some (some z, size, bytes)) (hzs : z.cells.size = size) (hsz : 0 < size) (hby : bytes ≤ 32)
    (S : Option Addr) (n cs : Nat) (vs : List Value) (hs : a.eval s = .slice S n cs) (hS : w.ownsRow 0 e size (.slice S n cs) n vs) (b c : Nat) (te : TypeId) (us : List Value) (hx : a.eval x = .slice (some ⟨b, 0, none⟩) 1 c) (hb : Box w b us.toArray te) (hl : us.length = size) (h1 : ∀ u ∈ us, u.oneCell' = true) (p : Nat) (hp : p = n + 1) (hN : p ≤ 1000000)
    (hK : ∀ A' c' w', w'.ownsRow 0 e size (.slice A' p c') p (vs ++ us) → Turn (Blk S) w w' → (∀ g, Blk A' g → Blk S g ∨ (w.heap.size ≤ g ∧ g < w'.heap.size)) → K (a.put o.dst (.slice A' p c')) w') : o.wp P a w K Q := by
  subst hp
  obtain ⟨A', c', w', hrun, h3, h4, h5⟩ := run_append_one (P := P) w t o.type e z size bytes ht h2 hzs hsz hby S n cs vs hS b c te us hb hl h1 hN
  unfold Oper.wp execOp
  simp only [ho, resolve, invoke, builtin, Sem.run_bind, Sem.run_pure, Result.andThen_ok, List.map_toArray, List.map_cons, List.map_nil, hs, hx, hrun]
  exact hK _ _ _ h3 h4 h5
theorem wpList_append_one (hgd : o.guard = none) (s x : Operand) (t : TypeId)
    (ho : o.op = .call { callee := .builtin .append, args := #[s, x], argTypes := #[t, t] }) (e : TypeId) (z : Value) (size bytes : Nat) (ht : P.underlying t = some (.slice e)) (h2 : (P.info? e).map (fun i => (i.zero, i.size, i.bytes)) = some (some z, size, bytes)) (hzs : z.cells.size = size) (hsz : 0 < size) (hby : bytes ≤ 32)
    (S : Option Addr) (n cs : Nat) (vs : List Value) (hs : a.eval s = .slice S n cs) (hS : w.ownsRow 0 e size (.slice S n cs) n vs) (b c : Nat) (te : TypeId) (us : List Value) (hx : a.eval x = .slice (some ⟨b, 0, none⟩) 1 c) (hb : Box w b us.toArray te) (hl : us.length = size) (h1 : ∀ u ∈ us, u.oneCell' = true) (p : Nat) (hp : p = n + 1) (hN : p ≤ 1000000)
    (hK : ∀ A' c' w', w'.ownsRow 0 e size (.slice A' p c') p (vs ++ us) → Turn (Blk S) w w' → (∀ g, Blk A' g → Blk S g ∨ (w.heap.size ≤ g ∧ g < w'.heap.size)) → wpList P ops Q rest (a.put o.dst (.slice A' p c')) w') : wpList P ops Q (o :: rest) a w :=
  wpList_plain hgd fun _ hk => wp_append_one s x t ho e z size bytes ht h2 hzs hsz hby S n cs vs hs hS b c te us hx hb hl h1 p hp hN fun A' c' w' h3 h4 h5 => hk _ _ (hK A' c' w' h3 h4 h5)
theorem step_append_one {K : Act → World → Prop} {E : Prop} (hgd : o.guard = none) (s x : Operand) (t : TypeId)
    (ho : o.op = .call { callee := .builtin .append, args := #[s, x], argTypes := #[t, t] }) (e : TypeId) (z : Value) (size bytes : Nat) (ht : P.underlying t = some (.slice e)) (h2 : (P.info? e).map (fun i => (i.zero, i.size, i.bytes)) = some (some z, size, bytes)) (hzs : z.cells.size = size) (hsz : 0 < size) (hby : bytes ≤ 32)
    (S : Option Addr) (n cs : Nat) (vs : List Value) (hs : a.eval s = .slice S n cs) (hS : w.ownsRow 0 e size (.slice S n cs) n vs) (b c : Nat) (te : TypeId) (us : List Value) (hx : a.eval x = .slice (some ⟨b, 0, none⟩) 1 c) (hb : Box w b us.toArray te) (hl : us.length = size) (h1 : ∀ u ∈ us, u.oneCell' = true) (p : Nat) (hp : p = n + 1) (hN : p ≤ 1000000)
    (hK : ∀ A' c' w', w'.ownsRow 0 e size (.slice A' p c') p (vs ++ us) → Turn (Blk S) w w' → (∀ g, Blk A' g → Blk S g ∨ (w.heap.size ≤ g ∧ g < w'.heap.size)) → K (a.put o.dst (.slice A' p c')) w') :
    if Region.wanted o (yielded ops a.tmps) = true then Oper.wp P o a w K Q else E := by
  have hw : Region.wanted o (yielded ops a.tmps) = true := by simp [Region.wanted, hgd]
  rw [if_pos hw]
  exact wp_append_one s x t ho e z size bytes ht h2 hzs hsz hby S n cs vs hs hS b c te us hx hb hl h1 p hp hN hK
end
/-- a journal of the program -/
def JN (w : World) (B : Nat) (F : Nat → Prop) (p : Nat) (es : List Ent) : Prop :=
  ∃ A n c A' m c', Box w p #[.slice A n c, .slice A' m c'] 57 ∧ F p ∧ (∀ k, F k → B ≤ k ∧ k < w.heap.size) ∧ RQ w F A n c (jb es) ∧ RI w F A' m c' (ends es) ∧
    ¬ Blk A p ∧ ¬ Blk A' p ∧ (∀ g, Blk A g → ¬ Blk A' g) ∧ OkE es ∧ (jb es).length ≤ 65536
section
variable {w w' : World} {B B' p : Nat} {F G H : Nat → Prop} {es : List Ent}
theorem JN.turn (h : JN w B F p es) (t : Turn H w w') (hs : Sep F H) : JN w' B F p es := by
  obtain ⟨A, n, c, A', m, c', h1, h2, h3, h4, h5, h6, h7, h8, h9, h10⟩ := h
  exact ⟨A, n, c, A', m, c', t.box h1 (hs p h2), h2, fun k hk => ⟨(h3 k hk).1, Nat.lt_of_lt_of_le (h3 k hk).2 t.size⟩, h4.turn t (fun g hg => hs g (h4.2.2 g hg).1), h5.turn t (fun g hg => hs g (h5.2 g hg).1), h6, h7, h8, h9, h10⟩
theorem JN.below (h : JN w B F p es) (t : Below w.heap.size w w') : JN w' B F p es := h.turn (Turn.of (F := Non) t) (Sep.non F)
theorem JN.mono (h : JN w B F p es) (hm : ∀ k, F k → G k) (hG : ∀ k, G k → B ≤ k ∧ k < w.heap.size) : JN w B G p es := by
  obtain ⟨A, n, c, A', m, c', h1, h2, h3, h4, h5, h6⟩ := h
  exact ⟨A, n, c, A', m, c', h1, hm p h2, hG, h4.mono hm, h5.mono hm, h6⟩
theorem JN.low (h : JN w B F p es) (hb : B' ≤ B) : JN w B' F p es := by
  obtain ⟨A, n, c, A', m, c', h1, h2, h3, h6⟩ := h
  exact ⟨A, n, c, A', m, c', h1, h2, fun k hk => ⟨Nat.le_trans hb (h3 k hk).1, (h3 k hk).2⟩, h6⟩
theorem JN.rng (h : JN w B F p es) : ∀ k, F k → B ≤ k ∧ k < w.heap.size := by
  obtain ⟨A, n, c, A', m, c', h1, h2, h3, h6⟩ := h; exact h3
theorem JN.lt (h : JN w B F p es) : ∀ k, F k → k < w.heap.size := fun k hk => (h.rng k hk).2
theorem JN.ok (h : JN w B F p es) : OkE es ∧ (jb es).length ≤ 65536 := by
  obtain ⟨A, n, c, A', m, c', h1, h2, h3, h4, h5, h6, h7, h8, h9, h10⟩ := h; exact ⟨h9, h10⟩
end
end Go.Proofs.Ytjmpnpflmdpdkaa
