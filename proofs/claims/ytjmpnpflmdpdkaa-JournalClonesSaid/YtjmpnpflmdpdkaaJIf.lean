/- The program's journal: Clone. -/
import Derived.Test.YtjmpnpflmdpdkaaJIc
import Derived.Lib.Walk
namespace Go.Proofs.Ytjmpnpflmdpdkaa
open Go Go.RowKit FM

theorem wpList_append_ow {P : Program} {w : World} {ops : Array Oper} {rest : List Oper} {o : Oper} {a : Act} {Q : Exit → Act → World → Prop} (hgd : o.guard = none) (s x : Operand) (t : TypeId)
    (ho : o.op = .call { callee := .builtin .append, args := #[s, x], argTypes := #[t, t] }) (base : Nat) (e : TypeId) (z : Value) (size bytes : Nat) (ht : P.underlying t = some (.slice e)) (h2 : (P.info? e).map (fun i => (i.zero, i.size, i.bytes)) = some (some z, size, bytes)) (hzs : z.cells.size = size) (hsz : 0 < size)
    (S : Option Addr) (n cs : Nat) (vs : List Value) (hs : a.eval s = .slice S n cs) (hown : w.ownsRow base e size (.slice S n cs) n vs) (A : Option Addr) (m c : Nat) (news : List Value) (hx : a.eval x = .slice A m c)
    (hl : news.length = m * size) (hr : 0 < m → ∃ a, A = some a ∧ ∀ j u, news[j]? = some u → w.cell? (a.add j) = some u) (h1 : ∀ u ∈ news, u.oneCell' = true) (hby : bytes ≤ 32) (p : Nat) (hp : p = n + m) (hN : p ≤ 1000000) (hbase : base ≤ w.heap.size)
    (hK : ∀ A' c' w', w'.ownsRow base e size (.slice A' p c') p (vs ++ news) → Turn (Blk S) w w' → (∀ g, Blk A' g → Blk S g ∨ (w.heap.size ≤ g ∧ g < w'.heap.size)) → wpList P ops Q rest (a.put o.dst (.slice A' p c')) w') : wpList P ops Q (o :: rest) a w :=
  wpList_plain hgd fun K hk => by
    subst hp
    obtain ⟨A', c', w', hrun, h3, h4, h5⟩ := run_append_ow (P := P) w base t o.type e z size bytes ht h2 hzs hsz S n cs vs hown A m c news hl hr h1 hby hN hbase
    unfold Oper.wp execOp
    simp only [ho, resolve, invoke, builtin, Sem.run_bind, Sem.run_pure, Result.andThen_ok, List.map_toArray, List.map_cons, List.map_nil, hs, hx, hrun]
    exact hk _ _ (hK _ _ _ h3 h4 h5)
theorem rl_reads {w : World} {k : IntKind} {A : Option Addr} {n : Nat} {xs : List Nat} (h : RL w k A n xs) : 0 < n → ∃ a, A = some a ∧ ∀ j u, (cells k xs)[j]? = some u → w.cell? (a.add j) = some u := fun hn => by
  obtain ⟨b, o, rfl, hc⟩ := h.2 hn
  refine ⟨_, rfl, fun j u hu => ?_⟩
  rw [cells_getElem?] at hu
  obtain ⟨x, hx, rfl⟩ := Option.map_eq_some_iff.1 hu
  have ea : (⟨b, o, none⟩ : Addr).add j = ⟨b, o + j, none⟩ := by unfold Addr.add; split <;> simp_all
  rw [ea]; exact hc j x hx
set_option maxHeartbeats 1000000 in
theorem iclone_some (p : Addr) (n c : Nat) (us : List Nat) (w : World) (hx : RL w .i64 (some p) n us) (hn : n ≤ 1000000) :
    Calls Try.prog 38 #[.slice (some p) n c] w fun e w' => ∃ A' c', e = .returned (.slice A' n c') ∧ w'.ownsRow w.heap.size 3 1 (.slice A' n c') n (cells .i64 us) ∧ Below w.heap.size w w' := by
  have HX := hide hx
  clear hx
  have q22 : ∀ (w : World) (a : Option Addr) (n c n' c' : Nat), (binOp .eql 55 (.slice a n c) (.slice none n' c')).run Try.prog w = .ok (.bool a.isNone) w := fun w a n c n' c' => Lib.run_eql_slice_nil w _ _ a n c n' c' Try.underlying55
  go_enter Try.func38, Try.ntmps38
  have F : Below w.heap.size w (w.alloc (.cells #[] 3)) := (Below.refl _ _).alloc (Nat.le_refl _) _
  go_wp2_with (at_builtin; refine wpList_append_ow rfl _ _ 55 rfl w.heap.size 3 (.int .i64 0) 1 8 Try.underlying55 int_info8 rfl (by decide) (some ⟨w.heap.size, 0, none⟩) 0 0 [] rfl (owns_new w (Nat.le_refl _)) (some p) n c (cells .i64 us) rfl (by rw [cells_length, HX.out.len]; omega) (rl_reads (HX.out.below F)) (cells_one _ _) (by decide) n (by omega) (by omega) (by simp) ?_; intro A2 c2 w1 hrow1 ht1 _)
  go_ret
  refine ⟨A2, c2, rfl, hrow1, ?_⟩
  exact (Turn.below (F := Blk (some ⟨w.heap.size, 0, none⟩)) ht1 (fun k hk => by rw [blk_some.1 hk]; exact Nat.le_refl _) (by simp)) |> fun h => F.trans h
theorem iclone_nil (n c : Nat) (w : World) : Calls Try.prog 38 #[.slice none n c] w fun e w' => e = .returned (.slice none 0 0) ∧ w = w' := by
  have q22 : ∀ (w : World) (a : Option Addr) (n c n' c' : Nat), (binOp .eql 55 (.slice a n c) (.slice none n' c')).run Try.prog w = .ok (.bool a.isNone) w := fun w a n c n' c' => Lib.run_eql_slice_nil w _ _ a n c n' c' Try.underlying55
  go_enter Try.func38, Try.ntmps38
  go_wp2_with fail
  go_ret
  exact ⟨rfl, rfl⟩
theorem iclone_any (A : Option Addr) (n c : Nat) (us : List Nat) (w : World) (hx : RL w .i64 A n us) (hn : n ≤ 1000000) :
    Calls Try.prog 38 #[.slice A n c] w fun e w' => ∃ A' c', e = .returned (.slice A' n c') ∧ w'.ownsRow w.heap.size 3 1 (.slice A' n c') n (cells .i64 us) ∧ Below w.heap.size w w' := by
  cases A with
  | some p => exact iclone_some p n c us w hx hn
  | none =>
    obtain rfl : n = 0 := by
      rcases Nat.eq_zero_or_pos n with h | h
      · exact h
      · obtain ⟨_, _, e, _⟩ := hx.2 h; cases e
    obtain rfl : us = [] := List.eq_nil_of_length_eq_zero hx.1
    refine (iclone_nil 0 c w).mono ?_
    rintro e w' ⟨rfl, rfl⟩
    exact ⟨none, 0, rfl, World.ownsRow_nil _ _ _ _, Below.refl _ _⟩
theorem owns_apart {w : World} {b b' : Nat} {e e' : TypeId} {s s' n n' c c' : Nat} {A A' : Option Addr} {vs vs' : List Value} (h : w.ownsRow b e s (.slice A n c) n vs) (h' : w.ownsRow b' e' s' (.slice A' n' c') n' vs') (hne : e ≠ e') : ∀ g, Blk A g → ¬ Blk A' g := by
  rintro g ⟨o, x, rfl⟩ ⟨o', x', rfl⟩
  rcases h.2 with ⟨h1, _⟩ | ⟨g1, _, cur, h1, _, hg, _⟩
  · cases h1
  · rcases h'.2 with ⟨h2, _⟩ | ⟨g2, _, cur2, h2, _, hg2, _⟩
    · cases h2
    · injection h1 with h1; injection h1 with h1; injection h1 with h1
      injection h2 with h2; injection h2 with h2; injection h2 with h2
      subst h1; subst h2
      rw [hg] at hg2
      injection hg2 with hg2
      injection hg2 with _ hg2 _
      exact hne hg2
theorem clone_nilp (w : World) : Calls Try.prog 25 #[.pointer none] w fun e w' => e = .returned (.pointer none) ∧ w = w' := by
  go_enter Try.func25, Try.ntmps25
  go_wp2_with fail
  go_ret
  exact ⟨rfl, rfl⟩
theorem clone_jn {w W W2 : World} {es : List Ent} {A A' : Option Addr} {n c m c' : Nat} (hb : Below w.heap.size w W) (h4 : RB W w.heap.size A n c (jb es)) (h5 : W.ownsRow w.heap.size 3 1 (.slice A' m c') m (cells .i64 (ends es))) (h9 : OkE es) (h10 : (jb es).length ≤ 65536)
    (e : W.alloc (.cells #[.slice A n c, .slice A' m c'] 57) = W2) : JN W2 w.heap.size (Plus Non w W2) W.heap.size es ∧ Below w.heap.size w W2 := by
  obtain ⟨b1, b2, b3⟩ := boxC e
  have hs := hb.size
  have l4 := fun g hg => owns_blk (A := A) h4 g hg
  have l5 := fun g hg => owns_blk (A := A') h5 g hg
  refine ⟨⟨A, n, c, A', m, c', b2, .inr (by omega), fun k hk => ?_, ⟨.inl (owns_low ((Turn.of (F := Non) b1).owns h4 (fun _ _ => id)) (Nat.zero_le _)), jb_by h9, fun g hg => ?_⟩, ⟨owns_low ((Turn.of (F := Non) b1).owns h5 (fun _ _ => id)) (Nat.zero_le _), fun g hg => ?_⟩, fun h => ?_, fun h => ?_, owns_apart h4 h5 (by decide), h9, h10⟩, hb.trans (b1.mono hs)⟩
  · rcases hk with hk | hk
    · exact hk.elim
    · exact hk
  · have := l4 g hg; exact ⟨.inr (by omega), by omega⟩
  · have := l5 g hg; exact ⟨.inr (by omega), by omega⟩
  · have := l4 _ h; omega
  · have := l5 _ h; omega
theorem Below.lowO {w W wx wa : World} {e : TypeId} {s n : Nat} {v : Value} {vs : List Value} (h : wa.ownsRow wx.heap.size e s v n vs) (h1 : w.heap.size ≤ W.heap.size) (h2 : Below W.heap.size W wx) : wa.ownsRow w.heap.size e s v n vs := owns_low h (Nat.le_trans h1 h2.size)
set_option maxHeartbeats 4000000 in
theorem jclone_any (p B : Nat) (F : Nat → Prop) (es : List Ent) (w : World) (h : JN w B F p es) : Calls Try.prog 25 #[.pointer (some ⟨p, 0, none⟩)] w fun e w' => ∃ q, e = .returned (.pointer (some ⟨q, 0, none⟩)) ∧ JN w' w.heap.size (Plus Non w w') q es ∧ Below w.heap.size w w' := by
  obtain ⟨A, n, c, A', m, c', h1, h2, h3, h4, h5, h6, h7, h8, h9, h10⟩ := h
  have k0 : w.cell? ⟨p, 0, none⟩ = some (.slice A n c) := h1.at_ 0
  have k1 : w.cell? ⟨p, 1, none⟩ = some (.slice A' m c') := h1.at_ 1
  have hn := h4.len
  have h5' := jb_ge es
  obtain ⟨b, o, x, rfl, -, -, -⟩ := h4.br.at_ (j := 0) (by omega)
  have HR := hide h4.br
  have HU := hide h5.rl
  have hes : es.length ≤ (jb es).length := by
    have e1 : ∀ l : List Ent, l.length ≤ (fr l).length := by
      intro l
      induction l with
      | nil => simp
      | cons x l ih => rw [fr_cons, List.length_append, frame_len, List.length_cons]; omega
    have := e1 es; rw [jb_len]; omega
  have hm : m = es.length := by rw [← h5.len, ends_len]
  have hm6 : m ≤ 1000000 := by omega
  have hn6 : n ≤ 1000000 := by omega
  have HC := hide (fun (W W2 : World) (A2 A3 : Option Addr) (c2 c3 : Nat) (hb : Below w.heap.size w W) h4 h5 => clone_jn (W2 := W2) (A := A2) (A' := A3) (n := n) (c := c2) (m := m) (c' := c3) hb h4 h5 h9 h10)
  have KS : Hid (∀ w', Below w.heap.size w w' → w'.cell? ⟨p, 0, none⟩ = some (.slice (some ⟨b, o, none⟩) n c) ∧ w'.cell? ⟨p, 1, none⟩ = some (.slice A' m c')) := fun w' hb => ⟨(h1.below' hb).at_ 0, (h1.below' hb).at_ 1⟩
  clear h1 h2 h3 h4 h5 h6 h7 h8 h9 h10 hn h5' hes hm
  go_enter Try.func25, Try.ntmps25
  go_wp2_with fail
  go_region_held3 (fun w' => w'.cell? ⟨p, 0, none⟩ = some (.slice (some ⟨b, o, none⟩) n c) ∧ w'.cell? ⟨p, 1, none⟩ = some (.slice A' m c'))
    (exact KS.out _ (by ((repeat (first | (with_reducible assumption) | (with_reducible exact Below.refl _ _) | (with_reducible refine Below.drewS ?_) | (with_reducible refine Below.allocS ?_ _))); (first | done | fail))))
    (first
      | (go_simp; go_at_call 33; (with_reducible refine (clone_any _ n c (jb es) _ (HR.out.below (by ((repeat (first | (with_reducible assumption) | (with_reducible exact Below.refl _ _) | (with_reducible refine Below.drewS ?_) | (with_reducible refine Below.allocS ?_ _))); (first | done | fail)))) hn6).mono ?_); rintro e w1 ⟨A2, c2, rfl, hr1, hb1⟩; have E1 : Below w.heap.size w w1 := Below.next (by ((repeat (first | (with_reducible assumption) | (with_reducible exact Below.refl _ _) | (with_reducible refine Below.drewS ?_) | (with_reducible refine Below.allocS ?_ _))); (first | done | fail))) hb1; replace hr1 := RB.lowB (w := w) hr1 (Nat.le_refl _) (by ((repeat (first | (with_reducible assumption) | (with_reducible exact Below.refl _ _) | (with_reducible refine Below.drewS ?_) | (with_reducible refine Below.allocS ?_ _))); (first | done | fail))); try (have G2 := (Turn.of (F := Non) hb1).owns hr2 (fun _ _ => id)))
      | (go_simp; go_at_call 38; (with_reducible refine (iclone_any A' m c' (ends es) _ (HU.out.below (by ((repeat (first | (with_reducible assumption) | (with_reducible exact Below.refl _ _) | (with_reducible refine Below.drewS ?_) | (with_reducible refine Below.allocS ?_ _))); (first | done | fail)))) hm6).mono ?_); rintro e w2 ⟨A3, c3, rfl, hr2, hb2⟩; have E2 : Below w.heap.size w w2 := Below.next (by ((repeat (first | (with_reducible assumption) | (with_reducible exact Below.refl _ _) | (with_reducible refine Below.drewS ?_) | (with_reducible refine Below.allocS ?_ _))); (first | done | fail))) hb2; replace hr2 := Below.lowO (w := w) hr2 (Nat.le_refl _) (by ((repeat (first | (with_reducible assumption) | (with_reducible exact Below.refl _ _) | (with_reducible refine Below.drewS ?_) | (with_reducible refine Below.allocS ?_ _))); (first | done | fail))); try (have G1 := RB.below hr1 hb2)))
  all_goals
    go_wp2_with fail
    go_ret
    first
      | exact ⟨_, rfl, HC.out _ _ _ _ _ _ E2 G1 hr2 rfl⟩
      | exact ⟨_, rfl, HC.out _ _ _ _ _ _ E1 hr1 G2 rfl⟩
end Go.Proofs.Ytjmpnpflmdpdkaa
