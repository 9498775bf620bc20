/- The contract of natural.divideShort. -/
import Derived.Test.YthkgiobemfnpmaaDoorCmp
namespace Go.Proofs.YthkgiobemfnpmaaDoor
open Go Go.RowKit

theorem cast_div (a d : Nat) : (a : Int) / (d : Int) = ((a / d : Nat) : Int) := (Int.natCast_ediv a d).symm
theorem cast_mod (a d : Nat) : (a : Int) % (d : Int) = ((a % d : Nat) : Int) := (Int.natCast_emod a d).symm

theorem ret_tup {v : Value} {k : IntKind} {a b : Nat} (h : a = b) : Ending.returned (.tuple #[v, .int k (a : Int)]) = .returned (.tuple #[v, .int k (b : Int)]) := by rw [h]
/-- a slice of a value, and a number -/
def GivesQR (u r : Nat) (w : World) (e : Ending) (w' : World) : Prop :=
  ∃ A n c, e = .returned (.tuple #[.slice A n c, .int .u64 (r : Int)]) ∧ RL w' .u32 A n (dig B9 u) ∧ n ≤ c ∧ c ≤ maxLen ∧ Below w.heap.size w w'

set_option maxHeartbeats 1000000 in
theorem divideShort_any (A : Option Addr) (n c : Nat) (xs : List Nat) (D : Nat) (w : World) (hr : RL w .u32 A n xs) (hN : n ≤ 2000000) (hx : ∀ x ∈ xs, x < B9) (hD : 0 < D) (hD9 : D < 1000000000) :
    Calls Tryd.prog 62 #[.slice A n c, .int .u64 (D : Int)] w (GivesQR (val B9 xs / D) (val B9 xs % D) w) := by
  have HX := hide hx
  have HL := hide hr.len
  clear hx
  go_enter Tryd.func62, Tryd.ntmps62
  go_wp2_with (at_make; refine wpList_make_zero _ rfl _ _ 22 rfl 49 .u32 4 Tryd.underlying22 u32_info .i64 .i64 _ _ n rfl rfl (by go_num) (by go_num) (by omega) (by omega) ?_; intro g w3 hg hown hbel)
  go_loopw [5, 6] (fun r t wr => ∃ (k R : Nat) (zs : List Nat), k ≤ n ∧ R < D ∧ r = .int .u64 (R : Int) ∧ t = .int .i64 ((k : Int) - 1) ∧ zs.length = n ∧ Own wr g .u32 49 zs ∧ Below w.heap.size w wr ∧
      val B9 (zs.drop k) = val B9 (xs.drop k) / D ∧ R = val B9 (xs.drop k) % D ∧ ∀ x ∈ zs, x < B9) (fun _ t _ => (intOf t + 1).toNat)
  case atStart =>
    have e : xs.drop n = [] := List.drop_eq_nil_of_le (by rw [HL.out]; exact Nat.le_refl _)
    exact ⟨n, 0, List.replicate n 0, by omega, hD, rfl, rfl, by simp, hown, hbel, by rw [e]; simp [val], by rw [e]; simp [val], fun x hx => by rw [List.eq_of_mem_replicate hx]; decide⟩
  case round =>
    obtain ⟨k, R, zs, hk, hR, rfl, rfl, hzl, hzo, hzb, hzv, hRv, hzd⟩ := hrel
    clear hown hbel
    have HZL := hide hzl
    have HZV := hide hzv
    have HRV := hide hRv
    have HZD := hide hzd
    have hr3 := hr.below hzb
    by_cases h0 : k = 0
    · subst h0
      have HE := hide (show trimL zs = dig B9 (val B9 xs / D) from by rw [trimL_dig B9 (by decide) zs hzd]; exact congrArg (dig B9) hzv)
      have HR2 := hide (show R = val B9 xs % D from hRv)
      clear hzl hzv hRv hzd
      go_wp2_with fail
      refine (trim_any _ n n zs _ (hzo.rl HZL.out) (Nat.le_refl _) (by unfold maxLen; omega)).mono ?_
      rintro e w' ⟨rfl, rfl⟩
      have h3 := hzo.trim (n := n) HE.out HZL.out
      rw [HE.out]
      go_wp2
      go_ret2
      exact ⟨_, _, _, ret_tup HR2.out, h3.1, h3.2, by unfold maxLen; omega, hzb⟩
    · obtain ⟨k, rfl⟩ : ∃ j, k = j + 1 := ⟨k - 1, by omega⟩
      obtain ⟨b, o, x, rfl, hx, hcell⟩ := hr3.at_ (j := k) (by omega)
      have hxb : x < 1000000000 := HX.out x (List.mem_of_getElem? hx)
      have hkz : k < zs.length := by omega
      have hold : wr.cell? ⟨g, k, none⟩ = some (.int .u32 ((zs[k]?.getD 0 : Nat) : Int)) := hzo.cell (by rw [List.getElem?_eq_getElem (by omega)]; rfl)
      have hfz := hzo.frozen k
      have hst := div_step (D := D) (V := val B9 (xs.drop (k + 1))) (x := x) (b := B9) hD
      rw [← val_drop_step B9 hx, ← hzv, ← hRv] at hst
      obtain ⟨q, hq⟩ : ∃ q, q = (R * B9 + x) / D := ⟨_, rfl⟩
      obtain ⟨r, hrr⟩ : ∃ r, r = (R * B9 + x) % D := ⟨_, rfl⟩
      rw [← hq, ← hrr] at hst
      have hqb : q < 1000000000 := by rw [hq]; exact div_bound hR hxb
      have hrb : r < D := by rw [hrr]; exact Nat.mod_lt _ hD
      have eI : (R : Int) * 1000000000 + (x : Int) = ((R * B9 + x : Nat) : Int) := by show _ = ((R * 1000000000 + x : Nat) : Int); omega
      have hq' : ((R : Int) * 1000000000 + (x : Int)) / (D : Int) = (q : Int) := by rw [eI, cast_div, hq]
      have hr' : ((R : Int) * 1000000000 + (x : Int)) % (D : Int) = (r : Int) := by rw [eI, cast_mod, hrr]
      have HST := hide hst
      clear hx hzl hzv hRv hzd hst eI hq hrr
      rw [show (((k + 1 : Nat) : Int) - 1) = (k : Int) from by omega]
      go_wp2
      go_roundw
      case rel =>
        refine ⟨k, r, zs.set k q, by omega, hrb, by rw [hr'], rfl, by rw [List.length_set]; exact HZL.out, hzo.put k (by first | rfl | exact hq'), hzb.setCell hg _, ?_, HST.out.2.symm, all_set HZD.out hqb⟩
        rw [val_drop_set B9 zs k q hkz]
        exact HST.out.1.symm
      case measure => simp [intOf]
end Go.Proofs.YthkgiobemfnpmaaDoor
