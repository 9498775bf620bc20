/- The contracts of package natural once more, in the forms that laws ask for. -/
import Derived.Test.YtoeknkakdoemfaaGreatDoorBaseD
import Derived.Test.YtoeknkakdoemfaaGreatDoorRNorm
import Derived.Test.YtoeknkakdoemfaaGreatDoorBox
import Derived.Test.YtoeknkakdoemfaaGreatDoorSimple
namespace Go.Proofs.YtoeknkakdoemfaaGreatDoor
open Go Go.RowKit

theorem mulB {x y i j : Nat} (hx : x < B9 ^ i) (hy : y < B9 ^ j) : x * y < B9 ^ (i + j) := by
  rw [Nat.pow_add]; exact Nat.mul_lt_mul'' hx hy
theorem addB {x y i : Nat} (hx : x < B9 ^ i) (hy : y < B9 ^ i) : x + y < B9 ^ (i + 1) := by
  have h : B9 ^ (i + 1) = B9 ^ i * 1000000000 := by rw [Nat.pow_succ]
  omega
theorem upB {x i j : Nat} (hx : x < B9 ^ i) (h : i ≤ j) : x < B9 ^ j := Nat.lt_of_lt_of_le hx (Nat.pow_le_pow_right (by decide) h)
theorem lenB {w : World} {A : Option Addr} {n u k : Nat} (h : RL w .u32 A n (dig B9 u)) (hu : u < B9 ^ k) (hk : k ≤ 900000) : n ≤ 900000 := by
  have : n ≤ k := len_le h.len hu
  omega
theorem valB {w : World} {A : Option Addr} {n : Nat} {xs : List Nat} (h : RL w .u32 A n xs) (hn : n ≤ 12) (hx : ∀ x ∈ xs, x < 4294967296) : val B9 xs < B9 ^ 13 := by
  have h2 : (dig B9 (val B9 xs)).length ≤ n + 1 := dig_len_u32 rfl h.len hx
  exact (dig_length_le B9 (by decide) 13 _).1 (by omega)
theorem of_zero (w : World) : Calls Tryz.prog 64 #[.int .u64 0] w (GivesN 0 w) := of_any 0 w (by omega)
theorem of_one (w : World) : Calls Tryz.prog 64 #[.int .u64 1] w (GivesN 1 w) := of_any 1 w (by omega)
section
variable (A : Option Addr) (n c : Nat) (xs : List Nat) (A' : Option Addr) (m d : Nat) (ys : List Nat) (w : World) (hr : RL w .u32 A n xs) (hn : n ≤ c) (hc : c ≤ maxLen) (hN : n ≤ 900000) (hx : ∀ x ∈ xs, x < 4294967296)
    (hr' : RL w .u32 A' m ys) (hm : m ≤ d) (hd : d ≤ maxLen) (hM : m ≤ 900000) (hy : ∀ x ∈ ys, x < 4294967296)
include hr hn hc hN hx hr' hm hd hM hy
theorem divMod_z (hv : val B9 ys = 0) : Calls Tryz.prog 42 #[.agg #[.slice A n c], .agg #[.slice A' m d]] w (GivesDM 0 0 12 w) :=
  (divMod_any A n c xs A' m d ys w hr hn hc hN hx hr' hm hd hM hy).mono fun _ _ h => h.2 hv
theorem divMod_nz (hv : val B9 ys ≠ 0) : Calls Tryz.prog 42 #[.agg #[.slice A n c], .agg #[.slice A' m d]] w (GivesDM (val B9 xs / val B9 ys) (val B9 xs % val B9 ys) 0 w) :=
  (divMod_any A n c xs A' m d ys w hr hn hc hN hx hr' hm hd hM hy).mono fun _ _ h => h.1 hv
theorem cmp_g (u v : Nat) (hu : val B9 xs = u) (hv : val B9 ys = v) (r : Int) (h : cmpI u v = r) : Calls Tryz.prog 63 #[.agg #[.slice A n c], .agg #[.slice A' m d]] w fun e w' => e = .returned (.int .i64 r) ∧ Below w.heap.size w w' := by
  have := cmp_any A n c xs A' m d ys w hr hn hc hN hx hr' hm hd hM hy
  rw [hu, hv, h] at this
  exact this
theorem mul_g (u v T : Nat) (hu : val B9 xs = u) (hv : val B9 ys = v) (h : u * v = T) : Calls Tryz.prog 52 #[.agg #[.slice A n c], .agg #[.slice A' m d]] w (GivesN T w) :=
  mul_any A n c xs A' m d ys w hr hn hc hN hx hr' hm hd hM hy T (by rw [hu, hv, h])
theorem add_g (u v T : Nat) (hu : val B9 xs = u) (hv : val B9 ys = v) (h : u + v = T) : Calls Tryz.prog 51 #[.agg #[.slice A n c], .agg #[.slice A' m d]] w (GivesN T w) :=
  add_any A n c xs A' m d ys w hr hn hc hN hx hr' hm hd hM hy T (by rw [hu, hv, h])
end
theorem vd (v : Nat) : val B9 (dig B9 v) = v := val_dig B9 (by decide) v
theorem rnorm_d (A : Option Addr) (n c u : Nat) (w : World) (hr : RL w .u32 A n (dig B9 u)) (hn : n ≤ c) (hc : c ≤ maxLen) (hN : n ≤ 900000) : Calls Tryz.prog 70 #[.agg #[.slice A n c]] w (GivesN u w) :=
  rnorm_any A n c _ w hr hn hc hN (dig_u32 u) u (vd u)
theorem lenB1 {w : World} {A : Option Addr} {n u k : Nat} (h : RL w .u32 A n (dig B9 u)) (hu : u < B9 ^ k) : n ≤ k := len_le h.len hu
theorem cmp_pos {v : Nat} (h : v ≠ 0) : cmpI v 0 = 1 := cmpI_gt (Nat.pos_of_ne_zero h)
theorem cmp_refl (v : Nat) : cmpI v v = 0 := cmpI_eq rfl

section
variable (A : Option Addr) (n c : Nat) (xs : List Nat) (w : World) (hr : RL w .u32 A n xs) (hn : n ≤ c) (hc : c ≤ maxLen) (hN : n ≤ 900000) (hx : ∀ x ∈ xs, x < 4294967296) (u : Nat) (hu : val B9 xs = u)
include hr hn hc hN hx hu
theorem digits_g (r : Nat) (h : nd u = r) : Calls Tryz.prog 108 #[.agg #[.slice A n c]] w fun e w' => e = .returned (.int .i64 (r : Int)) ∧ Below w.heap.size w w' := by
  have := digits_any A n c xs w hr hn hc hN hx
  rw [hu, h] at this
  exact this
end
theorem text_g (A : Option Addr) (n c : Nat) (xs : List Nat) (w : World) (hr : RL w .u32 A n xs) (hn : n ≤ c) (hc : c ≤ maxLen) (hN : n ≤ 900000) (hx : ∀ x ∈ xs, x < 4294967296) (hT : Tab w) (u : Nat) (hu : val B9 xs = u) (t : ByteArray) (ht : strN (asc u) = t) :
    Calls Tryz.prog 59 #[.agg #[.slice A n c]] w fun e w' => e = .returned (.string t) ∧ Below w.heap.size w w' := by
  subst ht
  exact text_any A n c xs w hr hn hc hN hx hT u hu
theorem lenT {w : World} {A : Option Addr} {n u k : Nat} (h : RL w .u32 A n (dig B9 u)) (hu : u < B9 ^ k) (hk : k ≤ 100000) : n ≤ 100000 := by
  have := len_le h.len hu
  omega
section
variable (A : Option Addr) (n c : Nat) (xs : List Nat) (A' : Option Addr) (m d : Nat) (ys : List Nat) (w : World) (hr : RL w .u32 A n xs) (hn : n ≤ c) (hc : c ≤ maxLen) (hN : n ≤ 100000) (hx : ∀ x ∈ xs, x < 4294967296)
    (hr' : RL w .u32 A' m ys) (hm : m ≤ d) (hd : d ≤ maxLen) (hM : m ≤ 100000) (hy : ∀ x ∈ ys, x < 4294967296) (u v : Nat) (hu : val B9 xs = u) (hv : val B9 ys = v) (T : Nat) (r : Int) (hT : subU u v = T) (hR : subE u v = r)
include hr hn hc hN hx hr' hm hd hM hy hu hv hT hR
theorem sub_g : Calls Tryz.prog 77 #[.agg #[.slice A n c], .agg #[.slice A' m d]] w (GivesNE T r w) := by
  have := sub_any A n c xs A' m d ys w hr hn hc (by omega) hx hr' hm hd (by omega) hy
  rw [hu, hv, hT, hR] at this
  exact this
end
end Go.Proofs.YtoeknkakdoemfaaGreatDoor

/- Words for fractions: naturals in memory with their limits, what a call that gives a fraction gives, the number of a fraction. -/
namespace Go.Proofs.YtoeknkakdoemfaaGreatDoor
open Go Go.RowKit

/-- a natural of the value u in memory, of at most L limbs -/
def Nt (w : World) (L : Nat) (A : Option Addr) (n c u : Nat) : Prop :=
  ∃ xs, RL w .u32 A n xs ∧ n ≤ c ∧ c ≤ maxLen ∧ n ≤ L ∧ (∀ x ∈ xs, x < 4294967296) ∧ val B9 xs = u
/-- a canonical natural -/
def Cn (w : World) (A : Option Addr) (n c u : Nat) : Prop := RL w .u32 A n (dig B9 u) ∧ n ≤ c ∧ c ≤ maxLen
section
variable {w w' : World} {L n c u B : Nat} {A : Option Addr}
theorem Nt.below (h : Nt w L A n c u) (hb : Below w.heap.size w w') : Nt w' L A n c u := by
  obtain ⟨xs, h1, h2⟩ := h
  exact ⟨xs, h1.below hb, h2⟩
theorem Cn.below (h : Cn w A n c u) (hb : Below w.heap.size w w') : Cn w' A n c u := ⟨h.1.below hb, h.2⟩
theorem Cn.nt (h : Cn w A n c u) (hu : u < B9 ^ L) : Nt w L A n c u := ⟨_, h.1, h.2.1, h.2.2, len_le h.1.len hu, dig_u32 u, vd u⟩
theorem Nt.nil_ (w : World) (L : Nat) : Nt w L none 0 0 0 := ⟨[], RL.nil_, by omega, by simp [maxLen], by omega, by simp, rfl⟩
theorem Nt.up (h : Nt w L A n c u) {M : Nat} (hL : L ≤ M) : Nt w M A n c u := by
  obtain ⟨xs, h1, h2, h3, h4, h5⟩ := h
  exact ⟨xs, h1, h2, h3, by omega, h5⟩
/-- the value is below a power -/
theorem Nt.lt (h : Nt w L A n c u) : u < B9 ^ (L + 1) := by
  obtain ⟨xs, h1, _, _, h4, h5, h6⟩ := h
  have h7 := val_lt_u32 xs h5
  rw [h1.len, h6] at h7
  exact upB h7 (by omega)
/-- no cell of a block reads as a number -/
def NoInt (vs : Array Value) : Prop := ∀ (k : IntKind) (j : Nat) (x : Int), vs[j]? ≠ some (.int k x)
theorem Nt.far (h : Nt w L A n c u) {g i : Nat} {vs : Array Value} {t : TypeId} (hg : Box w g vs t) (hv : NoInt vs) (v : Value) : Nt (w.setCell ⟨g, i, none⟩ v) L A n c u := by
  obtain ⟨xs, h1, h2⟩ := h
  exact ⟨xs, h1.box hg (hv _) v, h2⟩
theorem Cn.far (h : Cn w A n c u) {g i : Nat} {vs : Array Value} {t : TypeId} (hg : Box w g vs t) (hv : NoInt vs) (v : Value) : Cn (w.setCell ⟨g, i, none⟩ v) A n c u := ⟨h.1.box hg (hv _) v, h.2⟩
theorem noInt3 {p : Bool} {S T : Option Addr} {m d m' d' : Nat} : NoInt #[.bool p, .slice S m d, .slice T m' d'] := by
  intro k j x h
  rcases j with _ | _ | _ | j <;> simp at h
theorem noInt1 {S : Option Addr} {m d : Nat} : NoInt #[.slice S m d] := by
  intro k j x h
  rcases j with _ | j <;> simp at h
end
/-- the call gives a fraction of this sign and these naturals -/
def GivesQ (L : Nat) (p : Bool) (u v : Nat) (w : World) (e : Ending) (w' : World) : Prop :=
  ∃ A n c B m d, e = .returned (.agg #[.bool p, .slice A n c, .slice B m d]) ∧ Nt w' L A n c u ∧ Nt w' L B m d v ∧ Below w.heap.size w w'
/-- the number of a fraction -/
def qv (p : Bool) (u v : Nat) : Rat := mkRat (if p then -(u : Int) else u) v
/-- the call gives the canonical fraction of a number -/
def GivesR (r : Rat) (w : World) (e : Ending) (w' : World) : Prop :=
  ∃ A n c B m d, e = .returned (.agg #[.bool (decide (r.num < 0)), .slice A n c, .slice B m d]) ∧ Cn w' A n c r.num.natAbs ∧ Cn w' B m d r.den ∧ Below w.heap.size w w'

theorem natAbs_sign (p : Bool) (u : Nat) : (if p then -(u : Int) else (u : Int)).natAbs = u := by
  cases p <;> simp
theorem qv_num {p : Bool} {u v : Nat} (hv : v ≠ 0) : (qv p u v).num = (if p then -((u / Nat.gcd u v : Nat) : Int) else ((u / Nat.gcd u v : Nat) : Int)) := by
  unfold qv
  rw [mkRat, dif_neg hv, Rat.normalize_eq hv]
  show ((if p then -(u : Int) else (u : Int)) / ((if p then -(u : Int) else (u : Int)).natAbs.gcd v : Nat)) = _
  rw [natAbs_sign]
  cases p
  · simp
  · simp only [if_true]
    rw [Int.neg_ediv_of_dvd (Int.natCast_dvd_natCast.2 (Nat.gcd_dvd_left u v))]
    simp
theorem qv_abs {p : Bool} {u v : Nat} (hv : v ≠ 0) : (qv p u v).num.natAbs = u / Nat.gcd u v := by
  rw [qv_num hv, natAbs_sign]
theorem qv_den {p : Bool} {u v : Nat} (hv : v ≠ 0) : (qv p u v).den = v / Nat.gcd u v := by
  unfold qv
  rw [mkRat, dif_neg hv, Rat.normalize_eq hv]
  show v / ((if p then -(u : Int) else (u : Int)).natAbs.gcd v) = _
  rw [natAbs_sign]
theorem qv_neg {p : Bool} {u v : Nat} (hv : v ≠ 0) : decide ((qv p u v).num < 0) = (p && !decide (u / Nat.gcd u v = 0)) := by
  rw [qv_num hv]
  generalize u / Nat.gcd u v = k
  cases p
  · simp
  · simp only [if_true, Bool.true_and]
    rw [← decide_not, decide_eq_decide]
    omega
theorem qv_zero {p : Bool} {u : Nat} : qv p u 0 = 0 := by
  unfold qv; rw [Rat.mkRat_zero]
theorem sgn_mul (p q : Bool) (a b : Nat) : (if p then -(a : Int) else (a : Int)) * (if q then -(b : Int) else (b : Int)) = if (p != q) then -((a * b : Nat) : Int) else ((a * b : Nat) : Int) := by
  cases p <;> cases q <;> simp [Int.neg_mul, Int.mul_neg]
theorem qv_mul (p q : Bool) (a b c d : Nat) : qv p a b * qv q c d = qv (p != q) (a * c) (b * d) := by
  unfold qv
  rw [Rat.mkRat_mul_mkRat, sgn_mul]
theorem qv_minus (p : Bool) (a b : Nat) : -qv p a b = qv (!p) a b := by
  unfold qv
  rw [Rat.neg_mkRat]
  cases p <;> simp
theorem qv_add_same (p : Bool) {a b c d : Nat} (hb : b ≠ 0) (hd : d ≠ 0) : qv p a b + qv p c d = qv p (a * d + c * b) (b * d) := by
  unfold qv
  rw [Rat.mkRat_add_mkRat _ _ hb hd]
  congr 1
  cases p
  · simp
  · simp [Int.neg_mul]; omega
theorem qv_add_ge (p : Bool) {a b c d : Nat} (hb : b ≠ 0) (hd : d ≠ 0) (h : c * b ≤ a * d) : qv p a b + qv (!p) c d = qv p (a * d - c * b) (b * d) := by
  unfold qv
  rw [Rat.mkRat_add_mkRat _ _ hb hd]
  congr 1
  cases p
  · simp [Int.neg_mul]; omega
  · simp [Int.neg_mul]; omega
theorem qv_add_lt (p : Bool) {a b c d : Nat} (hb : b ≠ 0) (hd : d ≠ 0) (h : a * d ≤ c * b) : qv p a b + qv (!p) c d = qv (!p) (c * b - a * d) (b * d) := by
  unfold qv
  rw [Rat.mkRat_add_mkRat _ _ hb hd]
  congr 1
  cases p
  · simp [Int.neg_mul]; omega
  · simp [Int.neg_mul]; omega
theorem qv_inv (q : Bool) (c d : Nat) : (qv q c d)⁻¹ = qv q d c := by
  have e : ∀ (n : Int) (k : Nat), mkRat n k = Rat.divInt n (k : Int) := fun _ _ => rfl
  unfold qv
  rw [e, e, Rat.inv_divInt]
  cases q
  · simp
  · simp only [if_true]
    rw [← Rat.neg_divInt_neg]
    simp
theorem qv_div (p q : Bool) (a b c d : Nat) : qv p a b / qv q c d = qv (p != q) (a * d) (b * c) := by
  rw [Rat.div_def, qv_inv, qv_mul]
section
variable {w W : World} {c0 c1 c2 c3 : Array Value} {t0 t1 t2 t3 : TypeId}
theorem boxesA1 (hW : w.alloc (.cells c0 t0) = W) : Below w.heap.size w W ∧ Box W w.heap.size c0 t0 ∧ W.heap.size = w.heap.size + 1 := by
  subst hW
  exact ⟨(Below.refl _ _).alloc (Nat.le_refl _) _, Box.new _ _ _, by simp⟩
theorem boxesA2 (hW : (w.alloc (.cells c0 t0)).alloc (.cells c1 t1) = W) :
    Below w.heap.size w W ∧ Box W w.heap.size c0 t0 ∧ Box W (w.heap.size + 1) c1 t1 ∧ W.heap.size = w.heap.size + 2 := by
  obtain ⟨a, b, c⟩ := boxesA1 (rfl : w.alloc (.cells c0 t0) = _)
  generalize w.alloc (.cells c0 t0) = V at *
  subst hW
  refine ⟨a.alloc (by omega) _, b.alloc _, ?_, by simp; omega⟩
  rw [← c]; exact Box.new _ _ _
theorem boxesA3 (hW : ((w.alloc (.cells c0 t0)).alloc (.cells c1 t1)).alloc (.cells c2 t2) = W) :
    Below w.heap.size w W ∧ Box W w.heap.size c0 t0 ∧ Box W (w.heap.size + 1) c1 t1 ∧ Box W (w.heap.size + 2) c2 t2 ∧ W.heap.size = w.heap.size + 3 := by
  obtain ⟨a, b, b', c⟩ := boxesA2 (rfl : (w.alloc (.cells c0 t0)).alloc (.cells c1 t1) = _)
  generalize (w.alloc (.cells c0 t0)).alloc (.cells c1 t1) = V at *
  subst hW
  refine ⟨a.alloc (by omega) _, b.alloc _, b'.alloc _, ?_, by simp; omega⟩
  rw [← c]; exact Box.new _ _ _
theorem boxesA4 (hW : (((w.alloc (.cells c0 t0)).alloc (.cells c1 t1)).alloc (.cells c2 t2)).alloc (.cells c3 t3) = W) :
    Below w.heap.size w W ∧ Box W w.heap.size c0 t0 ∧ Box W (w.heap.size + 1) c1 t1 ∧ Box W (w.heap.size + 2) c2 t2 ∧ Box W (w.heap.size + 3) c3 t3 ∧ W.heap.size = w.heap.size + 4 := by
  obtain ⟨a, b, b', b'', c⟩ := boxesA3 (rfl : ((w.alloc (.cells c0 t0)).alloc (.cells c1 t1)).alloc (.cells c2 t2) = _)
  generalize ((w.alloc (.cells c0 t0)).alloc (.cells c1 t1)).alloc (.cells c2 t2) = V at *
  subst hW
  refine ⟨a.alloc (by omega) _, b.alloc _, b'.alloc _, b''.alloc _, ?_, by simp; omega⟩
  rw [← c]; exact Box.new _ _ _
end
section
variable {w1 : World} {g : Nat} {p0 p : Bool} {S T A B : Option Addr} {s s' t t' n c m d : Nat} {ty : TypeId}
theorem put3 (b : Box w1 g #[.bool p0, .slice S s s', .slice T t t'] ty) {W3 : World}
    (hW : ((w1.setCell ⟨g, 0, none⟩ (.bool p)).setCell ⟨g, 1, none⟩ (.slice A n c)).setCell ⟨g, 2, none⟩ (.slice B m d) = W3) :
    Box W3 g #[.bool p, .slice A n c, .slice B m d] ty ∧ (∀ L A n c u, Nt w1 L A n c u → Nt W3 L A n c u) ∧ (∀ A n c u, Cn w1 A n c u → Cn W3 A n c u) ∧
    (∀ N w, Below N w w1 → N ≤ g → Below N w W3) ∧ (∀ h vs t, h ≠ g → Box w1 h vs t → Box W3 h vs t) := by
  subst hW
  have b1 := b.set_ 0 (.bool p)
  have e1 : (#[.bool p0, .slice S s s', .slice T t t'] : Array Value).setIfInBounds 0 (.bool p) = #[.bool p, .slice S s s', .slice T t t'] := by simp [Array.setIfInBounds]
  rw [e1] at b1
  have b2 := b1.set_ 1 (.slice A n c)
  have e2 : (#[.bool p, .slice S s s', .slice T t t'] : Array Value).setIfInBounds 1 (.slice A n c) = #[.bool p, .slice A n c, .slice T t t'] := by simp [Array.setIfInBounds]
  rw [e2] at b2
  have b3 := b2.set_ 2 (.slice B m d)
  have e3 : (#[.bool p, .slice A n c, .slice T t t'] : Array Value).setIfInBounds 2 (.slice B m d) = #[.bool p, .slice A n c, .slice B m d] := by simp [Array.setIfInBounds]
  rw [e3] at b3
  refine ⟨b3, ?_, ?_, ?_, ?_⟩
  · intro L A n c u h
    exact ((h.far b noInt3 _).far b1 noInt3 _).far b2 noInt3 _
  · intro A n c u h
    exact ((h.far b noInt3 _).far b1 noInt3 _).far b2 noInt3 _
  · intro N w h hN
    exact ((h.setCell hN _).setCell hN _).setCell hN _
  · intro h vs t hh hb
    exact ((hb.far hh _).far hh _).far hh _
end
end Go.Proofs.YtoeknkakdoemfaaGreatDoor

/- The contracts of package natural at naturals of a limit. -/
namespace Go.Proofs.YtoeknkakdoemfaaGreatDoor
open Go Go.RowKit

section
variable {L : Nat} {A : Option Addr} {n c u : Nat} {A' : Option Addr} {m d v : Nat} {w : World}
theorem cmp_n (hA : Nt w L A n c u) (hB : Nt w L A' m d v) (hL : L ≤ 100000) (r : Int) (h : cmpI u v = r) :
    Calls Tryz.prog 63 #[.agg #[.slice A n c], .agg #[.slice A' m d]] w fun e w' => e = .returned (.int .i64 r) ∧ Below w.heap.size w w' := by
  obtain ⟨xs, h1, h2, h3, h4, h5, h6⟩ := hA
  obtain ⟨ys, i1, i2, i3, i4, i5, i6⟩ := hB
  exact cmp_g A n c xs A' m d ys w h1 h2 h3 (by omega) h5 i1 i2 i3 (by omega) i5 u v h6 i6 r h
theorem mul_n (hA : Nt w L A n c u) (hB : Nt w L A' m d v) (hL : L ≤ 100000) (T : Nat) (h : u * v = T) :
    Calls Tryz.prog 52 #[.agg #[.slice A n c], .agg #[.slice A' m d]] w (GivesN T w) := by
  obtain ⟨xs, h1, h2, h3, h4, h5, h6⟩ := hA
  obtain ⟨ys, i1, i2, i3, i4, i5, i6⟩ := hB
  exact mul_g A n c xs A' m d ys w h1 h2 h3 (by omega) h5 i1 i2 i3 (by omega) i5 u v T h6 i6 h
theorem add_n (hA : Nt w L A n c u) (hB : Nt w L A' m d v) (hL : L ≤ 100000) (T : Nat) (h : u + v = T) :
    Calls Tryz.prog 51 #[.agg #[.slice A n c], .agg #[.slice A' m d]] w (GivesN T w) := by
  obtain ⟨xs, h1, h2, h3, h4, h5, h6⟩ := hA
  obtain ⟨ys, i1, i2, i3, i4, i5, i6⟩ := hB
  exact add_g A n c xs A' m d ys w h1 h2 h3 (by omega) h5 i1 i2 i3 (by omega) i5 u v T h6 i6 h
theorem sub_n (hA : Nt w L A n c u) (hB : Nt w L A' m d v) (hL : L ≤ 100000) (T : Nat) (h : u - v = T) (hle : v ≤ u) :
    Calls Tryz.prog 77 #[.agg #[.slice A n c], .agg #[.slice A' m d]] w (GivesNE T 0 w) := by
  obtain ⟨xs, h1, h2, h3, h4, h5, h6⟩ := hA
  obtain ⟨ys, i1, i2, i3, i4, i5, i6⟩ := hB
  exact sub_g A n c xs A' m d ys w h1 h2 h3 (by omega) h5 i1 i2 i3 (by omega) i5 u v h6 i6 T 0 h (if_neg (by omega))
theorem div_n (hA : Nt w L A n c u) (hB : Nt w L A' m d v) (hL : L ≤ 100000) (hv : v ≠ 0) (q r : Nat) (hq : u / v = q) (hr : u % v = r) :
    Calls Tryz.prog 42 #[.agg #[.slice A n c], .agg #[.slice A' m d]] w (GivesDM q r 0 w) := by
  obtain ⟨xs, h1, h2, h3, h4, h5, h6⟩ := hA
  obtain ⟨ys, i1, i2, i3, i4, i5, i6⟩ := hB
  have := divMod_nz A n c xs A' m d ys w h1 h2 h3 (by omega) h5 i1 i2 i3 (by omega) i5 (by rw [i6]; exact hv)
  rw [h6, i6, hq, hr] at this
  exact this
end
/-- what a call of package natural gives, as a canonical natural -/
theorem GivesN.cn {u : Nat} {w w' : World} {e : Ending} (h : GivesN u w e w') : ∃ A n c, e = .returned (.agg #[.slice A n c]) ∧ Cn w' A n c u ∧ Below w.heap.size w w' := by
  obtain ⟨A, n, c, h1, h2, h3, h4, h5⟩ := h
  exact ⟨A, n, c, h1, ⟨h2, h3, h4⟩, h5⟩
theorem GivesNE.cn {u : Nat} {er : Int} {w w' : World} {e : Ending} (h : GivesNE u er w e w') : ∃ A n c, e = .returned (.tuple #[.agg #[.slice A n c], .int .i64 er]) ∧ Cn w' A n c u ∧ Below w.heap.size w w' := by
  obtain ⟨A, n, c, h1, h2, h3, h4, h5⟩ := h
  exact ⟨A, n, c, h1, ⟨h2, h3, h4⟩, h5⟩
theorem GivesDM.cn {u v : Nat} {er : Int} {w w' : World} {e : Ending} (h : GivesDM u v er w e w') :
    ∃ A n c B m d, e = .returned (.tuple #[.agg #[.slice A n c], .agg #[.slice B m d], .int .i64 er]) ∧ Cn w' A n c u ∧ Cn w' B m d v ∧ Below w.heap.size w w' := by
  obtain ⟨A, n, c, B, m, d, h1, h2, h3, h4, h5, h6, h7, h8⟩ := h
  exact ⟨A, n, c, B, m, d, h1, ⟨h2, h3, h4⟩, ⟨h5, h6, h7⟩, h8⟩
end Go.Proofs.YtoeknkakdoemfaaGreatDoor
