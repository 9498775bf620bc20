/- Expand. -/
import Derived.Test.YtdoknlodnpeeoaaDoorLNum
namespace Go.Proofs.YtdoknlodnpeeoaaDoor
open Go Go.RowKit Go.Lib

set_option maxRecDepth 100000 in
set_option maxHeartbeats 1000000 in
theorem num_e (w : World) : Calls Tryd.prog 45 #[.string ⟨#[]⟩] w (GivesU (some []) w) := by
  have e0 : ((⟨#[]⟩ : ByteArray).toList == []) = true := by rw [Lib.toList_data]; rfl
  go_enter Tryd.func45, Tryd.ntmps45
  go_wp2_with fail
  refine bodyPost_ret (v := .tuple #[.slice none 0 0, .bool true]) (by simp [results, Tryd.results45, go_sem, *]) rfl ?_
  exact ⟨⟨none, 0, [], true, rfl, RL.nil_, Nat.le_refl _, by simp [maxLen], .inl ⟨rfl, rfl⟩⟩, by first | exact ((Below.refl _ _).alloc (Nat.le_refl _) _).alloc (by simp) _ | exact Below.setCell (Below.setCell (((Below.refl _ _).alloc (Nat.le_refl _) _).alloc (by simp) _) (Nat.le_refl _) _) (by simp) _ | exact Below.setCell (((Below.refl _ _).alloc (Nat.le_refl _) _).alloc (by simp) _) (by simp) _⟩
theorem nums_any (s : ByteArray) (w : World) (hT : Lw w) (hs : s.size ≤ 1000) (o : Option (List Nat)) (ho : numsL s.data.toList = o) :
    Calls Tryd.prog 45 #[.string s] w (GivesU o w) := by
  unfold numsL at ho
  split at ho
  · rename_i h
    subst ho
    obtain rfl : s = ⟨#[]⟩ := by rw [← strB_data s, h]; rfl
    exact num_e w
  · rename_i h
    subst ho
    exact num_y s w hT hs (by rw [Lib.toList_data]; exact h)
/-- naturals as ints -/
def ints5 (l : List Nat) : List Int := l.map fun n : Nat => (n : Int)
theorem rl_il {w : World} {A : Option Addr} {n : Nat} {l : List Nat} (h : RL w .i64 A n l) : IL w A n (ints5 l) := by
  refine ⟨by unfold ints5; rw [List.length_map]; exact h.1, fun hn => ?_⟩
  obtain ⟨b, o, e, hc⟩ := h.2 hn
  refine ⟨b, o, e, fun j x hx => ?_⟩
  unfold ints5 at hx
  rw [List.getElem?_map] at hx
  obtain ⟨u, h1, h2⟩ := Option.map_eq_some_iff.1 hx
  subst h2
  exact hc j u h1
/-- the text of a list, as Runs gives it -/
def runT (xs : List Int) : ByteArray := if setB 1000 1 xs = true then runsT xs else ⟨#[]⟩
def runE (xs : List Int) : Int := if setB 1000 1 xs = true then 0 else 1
theorem runs_all (A : Option Addr) (m c : Nat) (xs : List Int) (w : World) (hx : IL w A m xs) (hmc : m ≤ c) (hc : c ≤ maxLen) (hT : Lw w) (S : ByteArray) (r : Int) (hS : runT xs = S) (hr : runE xs = r) :
    Calls Tryd.prog 20 #[.slice A m c] w fun e w' => e = .returned (.tuple #[.string S, .int .i64 r]) ∧ Below w.heap.size w w' := by
  refine runs_any A m c xs w hx hmc hc hT S r ?_
  unfold runT at hS
  unfold runE at hr
  rcases h : setB 1000 1 xs with _ | _
  · rw [h, if_neg (by decide)] at hS hr
    exact .inr ⟨rfl, hS.symm, hr.symm⟩
  · rw [h, if_pos rfl] at hS hr
    exact .inl ⟨rfl, hS, hr.symm⟩
/-- what Expand gives -/
def expL (l : List UInt8) : Option (List Nat) := match numsL l with
  | none => none
  | some L => if runT (ints5 L) = strB l then some L else none
/-- a slice of ints and an error's number -/
def GivesL5 (xs : List Nat) (er : Int) (w : World) (e : Ending) (w' : World) : Prop :=
  (∃ A c, e = .returned (.tuple #[.slice A xs.length c, .int .i64 er]) ∧ RL w' .i64 A xs.length xs ∧ xs.length ≤ c ∧ c ≤ maxLen) ∧ Below w.heap.size w w'
/-- a list, or the error -/
def expR (l : List UInt8) : List Nat × Int := match expL l with
  | none => ([], 3)
  | some L => (L, 0)
set_option maxHeartbeats 4000000 in
theorem expand_any (s : ByteArray) (w : World) (hT : Lw w) (hs : s.size ≤ 1000) (xs : List Nat) (er : Int) (hr : expR s.data.toList = (xs, er)) :
    Calls Tryd.prog 22 #[.string s] w (GivesL5 xs er w) := by
  have HT := hide hT
  have HR := hide hr
  clear hT hr
  go_enter Tryd.func22, Tryd.ntmps22
  go_wp2_with fail
  refine (nums_any s _ HT.out hs _ rfl).mono ?_
  rintro e w1 ⟨⟨A, c, L, f, rfl, hrl, hLc, hc, hf⟩, B⟩
  obtain ⟨S, hS⟩ : ∃ S, runT (ints5 L) = S := ⟨_, rfl⟩
  have HS := hide hS
  have HF := hide hf
  have HRL := hide hrl
  clear hS hf hrl
  go_wp2_with fail
  refine (runs_all A _ c _ _ (rl_il HRL.out) hLc hc (HT.out.below B) S _ HS.out rfl).mono ?_
  rintro e w2 ⟨rfl, hb⟩
  have hrl := HRL.out.below hb
  have B := B.trans (hb.mono B.size)
  clear hb
  rcases HF.out with ⟨h1, rfl⟩ | ⟨h1, rfl, rfl⟩
  · by_cases hc2 : S = s
    · have hh : expR s.data.toList = (L, 0) := by
        unfold expR expL
        rw [h1]
        simp only []
        rw [strB_data, if_pos (HS.out.trans hc2)]
      rw [HR.out] at hh
      injection hh with q1 q2
      subst q1; subst q2
      subst hc2
      have HHR := hide hrl
      clear h1 hrl
      go_wp2_with fail
      refine bodyPost_ret (v := .tuple #[.slice A xs.length c, .int .i64 0]) (by simp [results, Tryd.results22, go_sem, *]) rfl ?_
      exact ⟨⟨A, c, rfl, HHR.out, hLc, hc⟩, B⟩
    · have hh : expR s.data.toList = ([], 3) := by
        unfold expR expL
        rw [h1]
        simp only []
        rw [strB_data, if_neg fun h => hc2 (HS.out.symm.trans h)]
      rw [HR.out] at hh
      injection hh with q1 q2
      subst q1; subst q2
      have ne : (S.toList == s.toList) = false := beq_eq_false_iff_ne.2 fun h => hc2 (toList_inj h)
      clear h1 hc2 hrl
      go_wp2_with fail
      refine bodyPost_ret (v := .tuple #[.slice none 0 0, .int .i64 3]) (by simp [results, Tryd.results22, go_sem, *]) rfl ?_
      exact ⟨⟨none, 0, rfl, RL.nil_, Nat.le_refl _, by simp [maxLen]⟩, B⟩
  · have hh : expR s.data.toList = ([], 3) := by
      unfold expR expL
      rw [h1]
    rw [HR.out] at hh
    injection hh with q1 q2
    subst q1; subst q2
    clear h1 hrl
    go_wp2_with fail
    refine bodyPost_ret (v := .tuple #[.slice none 0 0, .int .i64 3]) (by simp [results, Tryd.results22, go_sem, *]) rfl ?_
    exact ⟨⟨none, 0, rfl, RL.nil_, Nat.le_refl _, by simp [maxLen]⟩, B⟩
set_option maxHeartbeats 2000000 in
theorem ints_same (A : Option Addr) (n c : Nat) (xs : List Int) (B : Option Addr) (d : Nat) (w : World) (hx : IL w A n xs) (hy : IL w B n xs) (hn : n ≤ 100000) :
    Calls Tryd.prog 23 #[.slice A n c, .slice B n d] w fun e w' => e = .returned (.bool true) ∧ Below w.heap.size w w' := by
  have HX := hide hx
  have HY := hide hy
  clear hx hy
  go_enter Tryd.func23, Tryd.ntmps23
  go_wp2_with fail
  go_loopw [5] (fun t wr => ∃ k q : Nat, k ≤ n ∧ t = .int .i64 ((k : Nat) : Int) ∧ wr = w.drewN q) (fun t _ => n - (RowKit.intOf t).toNat)
  case atStart => exact ⟨0, 0, Nat.zero_le _, rfl, rfl⟩
  case round =>
    obtain ⟨k, q, hk, rfl, rfl⟩ := hrel
    by_cases hlt : k < n
    · have HB : Hid (Below w.heap.size w (w.drewN q)) := below_drewN (Below.refl _ _) q
      obtain ⟨b, o, x, rfl, h1, c1⟩ := (HX.out.below HB.out).at_ hlt
      obtain ⟨b', o', y, rfl, h2, c2⟩ := (HY.out.below HB.out).at_ hlt
      obtain rfl : x = y := by rw [h1] at h2; exact Option.some.inj h2
      have HQ : Hid (∀ z, (w.drewN q).drewN z = w.drewN (q + z)) := fun z => World.drewN_drewN _ _ _
      have i1 : (0 : Int) ≤ (k : Int) := by omega
      have i2 : (k : Int) < (n : Int) := by omega
      clear h1 h2
      generalize w.drewN q = W at *
      go_wp2_with fail
      go_quiet (fail)
      go_wp2_with fail
      go_roundw
      case rel => exact ⟨k + 1, _, hlt, by go_num, HQ.out _⟩
      case measure => simp [RowKit.intOf]; omega
    · obtain rfl : k = n := by omega
      go_wp2_with fail
      go_ret
      exact ⟨rfl, below_drewN (Below.refl _ _) q⟩
end Go.Proofs.YtdoknlodnpeeoaaDoor
