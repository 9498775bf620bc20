/- The contracts of package natural once more, in the forms that laws ask for. -/
import Derived.Test.YtjmiaodjapclbaaDoorBaseD
import Derived.Test.YtjmiaodjapclbaaDoorRNorm
import Derived.Test.YtjmiaodjapclbaaDoorBox
import Derived.Test.YtjmiaodjapclbaaDoorSimple
namespace Go.Proofs.YtjmiaodjapclbaaDoor
open Go Go.RowKit

theorem mulB {x y i j : Nat} (hx : x < B9 ^ i) (hy : y < B9 ^ j) : x * y < B9 ^ (i + j) := by
  rw [Nat.pow_add]; exact Nat.mul_lt_mul'' hx hy
theorem addB {x y i : Nat} (hx : x < B9 ^ i) (hy : y < B9 ^ i) : x + y < B9 ^ (i + 1) := by
  have h : B9 ^ (i + 1) = B9 ^ i * 1000000000 := by rw [Nat.pow_succ]
  omega
theorem upB {x i j : Nat} (hx : x < B9 ^ i) (h : i ≤ j) : x < B9 ^ j := Nat.lt_of_lt_of_le hx (Nat.pow_le_pow_right (by decide) h)
theorem lenB {w : World} {A : Option Addr} {n u k : Nat} (h : RL w .u32 A n (dig B9 u)) (hu : u < B9 ^ k) (hk : k ≤ 900000) : n ≤ 900000 := by
  have : n ≤ k := len_le h.len hu
  omega
theorem valB {w : World} {A : Option Addr} {n : Nat} {xs : List Nat} (h : RL w .u32 A n xs) (hn : n ≤ 12) (hx : ∀ x ∈ xs, x < 4294967296) : val B9 xs < B9 ^ 13 := by
  have h2 : (dig B9 (val B9 xs)).length ≤ n + 1 := dig_len_u32 rfl h.len hx
  exact (dig_length_le B9 (by decide) 13 _).1 (by omega)
theorem of_zero (w : World) : Calls Tryd.prog 36 #[.int .u64 0] w (GivesN 0 w) := of_any 0 w (by omega)
theorem of_one (w : World) : Calls Tryd.prog 36 #[.int .u64 1] w (GivesN 1 w) := of_any 1 w (by omega)
section
variable (A : Option Addr) (n c : Nat) (xs : List Nat) (A' : Option Addr) (m d : Nat) (ys : List Nat) (w : World) (hr : RL w .u32 A n xs) (hn : n ≤ c) (hc : c ≤ maxLen) (hN : n ≤ 900000) (hx : ∀ x ∈ xs, x < 4294967296)
    (hr' : RL w .u32 A' m ys) (hm : m ≤ d) (hd : d ≤ maxLen) (hM : m ≤ 900000) (hy : ∀ x ∈ ys, x < 4294967296)
include hr hn hc hN hx hr' hm hd hM hy
theorem divMod_z (hv : val B9 ys = 0) : Calls Tryd.prog 63 #[.agg #[.slice A n c], .agg #[.slice A' m d]] w (GivesDM 0 0 12 w) :=
  (divMod_any A n c xs A' m d ys w hr hn hc hN hx hr' hm hd hM hy).mono fun _ _ h => h.2 hv
theorem divMod_nz (hv : val B9 ys ≠ 0) : Calls Tryd.prog 63 #[.agg #[.slice A n c], .agg #[.slice A' m d]] w (GivesDM (val B9 xs / val B9 ys) (val B9 xs % val B9 ys) 0 w) :=
  (divMod_any A n c xs A' m d ys w hr hn hc hN hx hr' hm hd hM hy).mono fun _ _ h => h.1 hv
theorem cmp_g (u v : Nat) (hu : val B9 xs = u) (hv : val B9 ys = v) (r : Int) (h : cmpI u v = r) : Calls Tryd.prog 32 #[.agg #[.slice A n c], .agg #[.slice A' m d]] w fun e w' => e = .returned (.int .i64 r) ∧ Below w.heap.size w w' := by
  have := cmp_any A n c xs A' m d ys w hr hn hc hN hx hr' hm hd hM hy
  rw [hu, hv, h] at this
  exact this
theorem mul_g (u v T : Nat) (hu : val B9 xs = u) (hv : val B9 ys = v) (h : u * v = T) : Calls Tryd.prog 35 #[.agg #[.slice A n c], .agg #[.slice A' m d]] w (GivesN T w) :=
  mul_any A n c xs A' m d ys w hr hn hc hN hx hr' hm hd hM hy T (by rw [hu, hv, h])
theorem add_g (u v T : Nat) (hu : val B9 xs = u) (hv : val B9 ys = v) (h : u + v = T) : Calls Tryd.prog 33 #[.agg #[.slice A n c], .agg #[.slice A' m d]] w (GivesN T w) :=
  add_any A n c xs A' m d ys w hr hn hc hN hx hr' hm hd hM hy T (by rw [hu, hv, h])
end
theorem vd (v : Nat) : val B9 (dig B9 v) = v := val_dig B9 (by decide) v
theorem rnorm_d (A : Option Addr) (n c u : Nat) (w : World) (hr : RL w .u32 A n (dig B9 u)) (hn : n ≤ c) (hc : c ≤ maxLen) (hN : n ≤ 900000) : Calls Tryd.prog 62 #[.agg #[.slice A n c]] w (GivesN u w) :=
  rnorm_any A n c _ w hr hn hc hN (dig_u32 u) u (vd u)
theorem lenB1 {w : World} {A : Option Addr} {n u k : Nat} (h : RL w .u32 A n (dig B9 u)) (hu : u < B9 ^ k) : n ≤ k := len_le h.len hu
theorem cmp_pos {v : Nat} (h : v ≠ 0) : cmpI v 0 = 1 := cmpI_gt (Nat.pos_of_ne_zero h)
theorem cmp_refl (v : Nat) : cmpI v v = 0 := cmpI_eq rfl

section
variable (A : Option Addr) (n c : Nat) (xs : List Nat) (w : World) (hr : RL w .u32 A n xs) (hn : n ≤ c) (hc : c ≤ maxLen) (hN : n ≤ 900000) (hx : ∀ x ∈ xs, x < 4294967296) (u : Nat) (hu : val B9 xs = u)
include hr hn hc hN hx hu
theorem digits_g (r : Nat) (h : nd u = r) : Calls Tryd.prog 58 #[.agg #[.slice A n c]] w fun e w' => e = .returned (.int .i64 (r : Int)) ∧ Below w.heap.size w w' := by
  have := digits_any A n c xs w hr hn hc hN hx
  rw [hu, h] at this
  exact this
end
theorem text_g (A : Option Addr) (n c : Nat) (xs : List Nat) (w : World) (hr : RL w .u32 A n xs) (hn : n ≤ c) (hc : c ≤ maxLen) (hN : n ≤ 900000) (hx : ∀ x ∈ xs, x < 4294967296) (hT : Tab w) (u : Nat) (hu : val B9 xs = u) (t : ByteArray) (ht : strN (asc u) = t) :
    Calls Tryd.prog 39 #[.agg #[.slice A n c]] w fun e w' => e = .returned (.string t) ∧ Below w.heap.size w w' := by
  subst ht
  exact text_any A n c xs w hr hn hc hN hx hT u hu
theorem lenT {w : World} {A : Option Addr} {n u k : Nat} (h : RL w .u32 A n (dig B9 u)) (hu : u < B9 ^ k) (hk : k ≤ 100000) : n ≤ 100000 := by
  have := len_le h.len hu
  omega
section
variable (A : Option Addr) (n c : Nat) (xs : List Nat) (A' : Option Addr) (m d : Nat) (ys : List Nat) (w : World) (hr : RL w .u32 A n xs) (hn : n ≤ c) (hc : c ≤ maxLen) (hN : n ≤ 100000) (hx : ∀ x ∈ xs, x < 4294967296)
    (hr' : RL w .u32 A' m ys) (hm : m ≤ d) (hd : d ≤ maxLen) (hM : m ≤ 100000) (hy : ∀ x ∈ ys, x < 4294967296) (u v : Nat) (hu : val B9 xs = u) (hv : val B9 ys = v) (T : Nat) (r : Int) (hT : subU u v = T) (hR : subE u v = r)
include hr hn hc hN hx hr' hm hd hM hy hu hv hT hR
theorem sub_g : Calls Tryd.prog 50 #[.agg #[.slice A n c], .agg #[.slice A' m d]] w (GivesNE T r w) := by
  have := sub_any A n c xs A' m d ys w hr hn hc (by omega) hx hr' hm hd (by omega) hy
  rw [hu, hv, hT, hR] at this
  exact this
end
end Go.Proofs.YtjmiaodjapclbaaDoor
