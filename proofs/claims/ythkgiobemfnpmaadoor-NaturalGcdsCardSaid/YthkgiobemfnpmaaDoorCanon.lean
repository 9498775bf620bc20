/- The contracts of natural.tooBig, slices.IndexFunc, slices.ContainsFunc, natural.canon. -/
import Derived.Test.YthkgiobemfnpmaaDoorCompare
import Derived.OwnWalk
namespace Go.Proofs.YthkgiobemfnpmaaDoor
open Go Go.RowKit

theorem tooBig_no (x : Nat) (w : World) (h : x < 1000000000) : Calls Tryd.prog 59 #[.int .u32 (x : Int)] w fun e w' => e = .returned (.bool false) ∧ w = w' := by
  have hd : decide ((1000000000 : Int) ≤ (x : Int)) = false := by simp; omega
  go_enter Tryd.func59, Tryd.ntmps59
  go_wp2
  go_ret
  exact ⟨rfl, rfl⟩
theorem tooBig_yes (x : Nat) (w : World) (h : 1000000000 ≤ x) : Calls Tryd.prog 59 #[.int .u32 (x : Int)] w fun e w' => e = .returned (.bool true) ∧ w = w' := by
  have hd : decide ((1000000000 : Int) ≤ (x : Int)) = true := by simp; omega
  go_enter Tryd.func59, Tryd.ntmps59
  go_wp2
  go_ret
  exact ⟨rfl, rfl⟩

/-- what IndexFunc finds: -1 if all limbs are canonical -/
def Found (xs : List Nat) (w : World) (e : Ending) (w' : World) : Prop :=
  ∃ r : Int, e = .returned (.int .i64 r) ∧ w = w' ∧ ((r = -1 ∧ ∀ x ∈ xs, x < B9) ∨ (0 ≤ r ∧ ¬ ∀ x ∈ xs, x < B9))
set_option maxHeartbeats 400000 in
theorem indexFunc_any (A : Option Addr) (n c : Nat) (xs : List Nat) (w : World) (hr : RL w .u32 A n xs) (hn : n ≤ maxLen) :
    Calls Tryd.prog 65 #[.slice A n c, .func (.func 59) #[] #[]] w (Found xs w) := by
  unfold maxLen at hn
  have HL := hide hr.len
  go_enter Tryd.func65, Tryd.ntmps65
  go_wp2
  go_loop [5, 8] (fun _ i => ∃ k : Nat, k ≤ n ∧ i = .int .i64 k ∧ ∀ x ∈ xs.take k, x < B9) (fun _ i => n - (intOf i).toNat)
  case atStart => exact ⟨0, by omega, rfl, fun x hx => by simp at hx⟩
  case round =>
    obtain ⟨k, hk, rfl, ht⟩ := hrel
    by_cases hlt : k < n
    · obtain ⟨b, o, x, rfl, hx, hcell⟩ := hr.at_ hlt
      have HX := hide hx
      have HT := hide ht
      clear hx ht
      by_cases hb : x < 1000000000
      · have HN : Hid (∀ y ∈ xs.take (k + 1), y < B9) := by
          intro y hy
          rw [take_snoc xs k x HX.out] at hy
          rcases List.mem_append.1 hy with h | h
          · exact HT.out y h
          · simp at h; subst h; exact hb
        go_wp2_with (go_at_call 59; refine (tooBig_no _ _ hb).mono ?_; rintro e w' ⟨rfl, rfl⟩)
        go_round
        case rel => exact ⟨k + 1, by omega, by go_num, HN.out⟩
        case measure => simp [intOf]; omega
      · have HN : Hid (¬ ∀ y ∈ xs, y < B9) := fun h => hb (h x (List.mem_of_getElem? HX.out))
        go_wp2_with (go_at_call 59; refine (tooBig_yes _ _ (by omega)).mono ?_; rintro e w' ⟨rfl, rfl⟩)
        go_ret
        exact ⟨_, rfl, rfl, .inr ⟨by omega, HN.out⟩⟩
    · have HN : Hid (∀ y ∈ xs, y < B9) := by
        have e : xs.take k = xs := List.take_of_length_le (by rw [HL.out]; omega)
        rw [e] at ht
        exact ht
      clear ht
      go_wp2
      go_ret
      exact ⟨_, rfl, rfl, .inl ⟨rfl, HN.out⟩⟩

def Big (xs : List Nat) (b : Bool) : Prop := (b = false ∧ ∀ x ∈ xs, x < B9) ∨ (b = true ∧ ¬ ∀ x ∈ xs, x < B9)
def Finds (xs : List Nat) (w : World) (e : Ending) (w' : World) : Prop := ∃ b, e = .returned (.bool b) ∧ w = w' ∧ Big xs b
theorem containsFunc_any (A : Option Addr) (n c : Nat) (xs : List Nat) (w : World) (hr : RL w .u32 A n xs) (hn : n ≤ maxLen) :
    Calls Tryd.prog 58 #[.slice A n c, .func (.func 59) #[] #[]] w (Finds xs w) := by
  go_enter Tryd.func58, Tryd.ntmps58
  go_wp2_with fail
  refine (indexFunc_any A n c xs w hr hn).mono ?_
  rintro e w' ⟨r, rfl, rfl, h⟩
  rcases h with ⟨h0, h1⟩ | ⟨h0, h1⟩
  · subst h0
    have H1 := hide h1
    clear h1
    go_wp2
    go_ret
    exact ⟨_, rfl, rfl, .inl ⟨rfl, H1.out⟩⟩
  · have H1 := hide h1
    clear h1
    have hd : decide (0 ≤ r) = true := by simpa using h0
    go_wp2
    go_ret
    exact ⟨_, rfl, rfl, .inr ⟨rfl, H1.out⟩⟩

theorem canon_end {b : Nat} (hb : 2 ≤ b) {zs ys : List Nat} {k C : Nat} (hk : zs.length = k + 1) (hy : ys.length = k) (h : val b (zs.take k) + b ^ k * C = val b (ys.take k)) (hz : ∀ x ∈ zs.take k, x < b) (hC : C < b) :
    trimL (zs.set k C) = dig b (val b ys) := by
  have e1 := put_step b zs k C (by omega)
  rw [Nat.mod_eq_of_lt hC, Nat.div_eq_of_lt hC, Nat.mul_zero, Nat.add_zero, h, List.take_of_length_le (by rw [List.length_set]; omega), List.take_of_length_le (by omega)] at e1
  rw [← e1]
  apply trimL_dig b hb
  have e2 := all_take_set (by omega : k < zs.length) hz hC
  rwa [List.take_of_length_le (by rw [List.length_set]; omega)] at e2
theorem u32_info : (Tryd.prog.info? 49).map (fun i => (i.zero, i.size, i.bytes)) = some (some (.int .u32 0), 1, 4) := by kernel_rfl

set_option maxHeartbeats 1000000 in
theorem canon_any (A : Option Addr) (n c : Nat) (xs : List Nat) (w : World) (hr : RL w .u32 A n xs) (hn : n ≤ c) (hc : c ≤ maxLen) (hN : n ≤ 1000000) (hx : ∀ x ∈ xs, x < 4294967296) :
    Calls Tryd.prog 41 #[.slice A n c] w (Gives (val B9 xs) w) := by
  have hys : ∃ ys, ys = trimL xs := ⟨_, rfl⟩
  obtain ⟨ys, hys⟩ := hys
  have hym : ∀ y ∈ ys, y < 4294967296 := fun y hy => hx y (mem_trimL (hys ▸ hy))
  have hv : val B9 ys = val B9 xs := by rw [hys, val_trimL]
  have hle : ys.length ≤ n := by rw [hys, ← hr.len]; exact trimL_length_le xs
  have hr2 : RL w .u32 A ys.length ys := by
    have h := hr.take_ (m := ys.length) hle
    rw [hys] at h ⊢
    rwa [← trimL_eq_take] at h
  have hlen : ∃ m, m = ys.length := ⟨_, rfl⟩
  obtain ⟨m, hm⟩ := hlen
  have htrim : ∀ w', RL w' .u32 A n xs → Calls Tryd.prog 42 #[.slice A n c] w' fun e w'' => e = .returned (.slice A m c) ∧ w' = w'' := by
    intro w' h
    rw [hm, hys]
    exact trim_any A n c xs w' h hn hc
  rw [← hm] at hle hr2
  have HI : Hid (trimL ys = ys) := by rw [hys]; exact trimL_idem xs
  have HV := hide hv
  have HYM := hide hym
  have HM := hide hm
  have HX := hide hx
  have HT := hide htrim
  clear hv hym hm hx htrim hys
  unfold maxLen at hc
  go_enter Tryd.func41, Tryd.ntmps41
  go_wp2_with fail
  refine (HT.out _ hr).mono ?_
  rintro e w' ⟨rfl, rfl⟩
  go_wp2_with fail
  refine (containsFunc_any A m c ys w hr2 (by unfold maxLen; omega)).mono ?_
  rintro e w' ⟨b, rfl, rfl, hbig⟩
  rcases hbig with ⟨rfl, hbig⟩ | ⟨rfl, hbig⟩
  · have HB := hide hbig
    clear hbig
    go_wp2
    go_ret
    refine ⟨A, m, c, rfl, ?_, by omega, by unfold maxLen; omega, Below.refl _ _⟩
    have e1 := trimL_dig B9 (by decide) ys HB.out
    rw [HV.out, HI.out] at e1
    rw [← e1]
    exact hr2
  · have HB := hide hbig
    clear hbig
    clear HI HT hr
    go_wp2_with (at_make; refine wpList_make_zero _ rfl _ _ 22 rfl 49 .u32 4 Tryd.underlying22 u32_info .i64 .i64 _ _ (m + 1) rfl rfl (by go_num) (by go_num) (by omega) (by omega) ?_; intro g w1 hg hown hbel)
    go_loopw [4, 5, 6, 19] (fun c4 _ _ i wr => ∃ (k C : Nat) (zs : List Nat), k ≤ m ∧ C ≤ 4 ∧ c4 = .int .u64 C ∧ i = .int .i64 k ∧ zs.length = m + 1 ∧ Own wr g .u32 49 zs ∧ Below w.heap.size w wr ∧
        val B9 (zs.take k) + B9 ^ k * C = val B9 (ys.take k) ∧ ∀ x ∈ zs.take k, x < B9) (fun _ _ _ i _ => m - (intOf i).toNat)
    case atStart => exact ⟨0, 0, List.replicate (m + 1) 0, by omega, by omega, rfl, rfl, by simp, hown, hbel, by simp [val], fun x hx => by simp at hx⟩
    case round =>
      obtain ⟨k, C, zs, hk, hC, rfl, rfl, hzl, hzo, hzb, hzv, hzd⟩ := hrel
      clear hown hbel
      have hr3 := hr2.below hzb
      have hgz : g < wr.heap.size := hzo.lt
      have HZL := hide hzl
      have HZV := hide hzv
      have HZD := hide hzd
      by_cases hlt : k < m
      · obtain ⟨b, o, x, rfl, hx, hcell⟩ := hr3.at_ hlt
        have hxb := HYM.out x (List.mem_of_getElem? hx)
        have hold : wr.cell? ⟨g, k, none⟩ = some (.int .u32 ((zs[k]?.getD 0 : Nat) : Int)) := hzo.cell (by rw [List.getElem?_eq_getElem (by omega)]; rfl)
        have hfz := hzo.frozen k
        have HX' := hide hx
        clear hx hzl hzv hzd
        go_wp2
        go_roundw
        case rel =>
          have hkl : k < zs.length := by rw [HZL.out]; omega
          refine ⟨k + 1, (C + x) / 1000000000, zs.set k ((C + x) % 1000000000), by omega, by omega, by go_num, by go_num, by rw [List.length_set]; exact HZL.out, hzo.put k (by omega), hzb.setCell hg _, ?_, ?_⟩
          · exact carry_step hkl HX'.out HZV.out
          · exact all_take_set hkl HZD.out (Nat.mod_lt _ (by decide))
        case measure => simp [intOf]; omega
      · obtain rfl : k = m := by omega
        have hold : wr.cell? ⟨g, k, none⟩ = some (.int .u32 ((zs[k]?.getD 0 : Nat) : Int)) := hzo.cell (by rw [List.getElem?_eq_getElem (by omega)]; rfl)
        have hfz := hzo.frozen k
        have HE : Hid (trimL (zs.set k C) = dig B9 (val B9 xs)) := by
          rw [← HV.out]
          exact canon_end (by decide) HZL.out HM.out.symm HZV.out HZD.out (by show C < 1000000000; omega)
        have hw : ∀ v : Int, v = (C : Int) → Own (wr.setCell ⟨g, k, none⟩ (.int .u32 v)) g .u32 49 (zs.set k C) := fun v e => hzo.put k e
        have HW := hide hw
        clear hzl hzv hzd hw hr3
        go_wp2_with fail
        have ho := HW.out _ rfl
        refine (trim_any _ (k + 1) (k + 1) (zs.set k C) _ (ho.rl (by rw [List.length_set]; exact HZL.out)) (Nat.le_refl _) (by unfold maxLen; omega)).mono ?_
        rintro e w' ⟨rfl, rfl⟩
        go_wp2
        go_ret
        refine ⟨_, _, _, rfl, ?_, ?_, by unfold maxLen; omega, hzb.setCell hg _⟩
        · rw [← HE.out]
          have h1 := ho.rl (n := k + 1) (by rw [List.length_set]; exact HZL.out)
          have h2 : (trimL (zs.set k C)).length ≤ k + 1 := by
            have := trimL_length_le (zs.set k C)
            rw [List.length_set, HZL.out] at this
            exact this
          have h3 := h1.take_ h2
          rwa [← trimL_eq_take] at h3
        · have := trimL_length_le (zs.set k C)
          rw [List.length_set, HZL.out] at this
          exact this
end Go.Proofs.YthkgiobemfnpmaaDoor
