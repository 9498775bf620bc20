/- strings.Lines. -/
import Derived.Test.YtaapcfflnklpjaaGreatDoorSN
import Derived.Test.YtaapcfflnklpjaaGreatDoorYC
import Derived.Test.YtaapcfflnklpjaaGreatDoorLPar
import Derived.Test.YtaapcfflnklpjaaGreatDoorSF
import Derived.Test.YtaapcfflnklpjaaGreatDoorSRf
namespace Go.Proofs.YtaapcfflnklpjaaGreatDoor
open Go Go.RowKit Go.Lib
/-- a line cut off -/
theorem linesL_hit {l : List UInt8} {k : Nat} (h : Lib.indexByte l 10 = (k : Int)) : k < l.length ∧ linesL l = l.take (k + 1) :: linesL (l.drop (k + 1)) := by
  obtain ⟨h1, h2⟩ := Lib.indexByte_some (o := k) h
  have hk : k < l.length := (List.getElem?_eq_some_iff.1 h1).1
  refine ⟨hk, ?_⟩
  have e : l = l.take k ++ 10 :: l.drop (k + 1) := by
    have := (List.take_append_drop k l).symm
    rw [drop_atB h1] at this
    exact this
  have hno : ∀ x ∈ l.take k, x ≠ 10 := by
    intro x hx e1
    subst e1
    obtain ⟨j, hj⟩ := List.getElem?_of_mem hx
    have hjk : j < k := by
      have := (List.getElem?_eq_some_iff.1 hj).1
      rw [List.length_take] at this
      omega
    rw [List.getElem?_take_of_lt hjk] at hj
    exact h2 j hjk hj
  have e2 : l.take (k + 1) = l.take k ++ [10] := by rw [List.take_add_one, h1]; rfl
  conv => lhs; rw [e]
  rw [linesL_at hno, e2]
theorem linesL_miss {l : List UInt8} (h : Lib.indexByte l 10 = -1) (hne : l ≠ []) : linesL l = [l] := by
  refine linesL_no ?_ hne
  intro x hx e
  subst e
  obtain ⟨j, hj⟩ := List.getElem?_of_mem hx
  exact Lib.indexByte_none h j hj
set_option maxHeartbeats 1000000 in
theorem lines_any (s : ByteArray) (w : World) :
    Calls Tryz.prog 70 #[.string s] w fun e w' => e = .returned (.func (.func 100) #[] #[.pointer (some ⟨w.heap.size, 0, none⟩)]) ∧ w' = w.alloc (.cells #[.string s] 9) := by
  go_enter Tryz.func70, Tryz.ntmps70
  go_wp2_with fail
  go_ret
  exact ⟨rfl, rfl⟩
theorem lst_snoc (pre : List Piece) (x : Piece) : lst (pre ++ [x]) = lst pre ++ [x.1.data.toList] := by unfold lst; rw [List.map_append]; rfl
set_option maxRecDepth 100000 in
set_option maxHeartbeats 4000000 in
theorem lines_iter (n : Nat) (hn : 1 ≤ n) (b l lo hi : Nat) (hlo : lo ≤ b) (hhi : b < hi) (s : ByteArray) (hs : s.size ≤ 5000) (w : World) (h0 : Box w b #[.string s] 9) :
    Iter9 Fence.wide n Tryz.prog 100 #[.pointer (some ⟨b, 0, none⟩)] encP (fun _ => True) l lo hi b (fun xs => lst xs = linesL s.data.toList) (fun pre => ∃ rest, lst pre ++ rest = linesL s.data.toList) 5000 w := by
  intro J Jx W hW hJ hJd hJx hM hY h0J
  have a0 := h0.lie hW hlo (by omega)
  have HJ := hide hJ
  have HJX := hide hJx
  have HJD := hide hJd
  have HY := hide hY
  have HZ := hide (Lib.size_eq s)
  clear hW h0 hJ hJd hJx hM hY
  refine callsIn_of_wp Tryz.func100 rfl trivial ?_ rfl
  simp only [Tryz.ntmps100, List.size_toArray, List.length_cons, List.length_nil, Nat.reduceAdd, Nat.reduceSub, Array.replicate_succ, Array.replicate_zero, List.push_toArray, List.append_toArray, List.nil_append, List.cons_append]
  gi_wp2
  gi_loopw [] (fun wr => ∃ (pre : List Piece) (r : ByteArray), Box wr b #[.string r] 9 ∧ J pre wr ∧ Hid (lst pre ++ linesL r.data.toList = linesL s.data.toList) ∧ pre.length + r.size ≤ 5000) (fun wr => strAt b wr)
  case atStart => exact ⟨[], s, a0, h0J, hide rfl, by simpa using hs⟩
  case round =>
    clear a0 h0J
    obtain ⟨pre, r, a0, hj, HS, hlen⟩ := hrel
    have c0 := a0.cell
    have HST := hide (strAt_eq c0)
    have hrz := Lib.size_eq r
    have HRZ := hide hrz
    by_cases hz : r.size = 0
    · have d0 : decide ((0 : Int) < (r.size : Int)) = false := decide_eq_false (by omega)
      have HE := hide (show lst pre = linesL s.data.toList by
        rw [← HS.out, List.eq_nil_of_length_eq_zero (l := r.data.toList) (by omega), linesL_nil, List.append_nil])
      clear hrz HS
      gi_wp2
      go_end0
      exact ⟨⟨_, rfl⟩, .inl ⟨_, HE.out, hj⟩⟩
    · have d0 : decide ((0 : Int) < (r.size : Int)) = true := decide_eq_true (by omega)
      have hne : r.data.toList ≠ [] := fun e => hz (by rw [hrz, e]; rfl)
      obtain ⟨k9, hk9⟩ : ∃ k, Lib.indexByte r.data.toList 10 = k := ⟨_, rfl⟩
      have HK := hide (fun W => ib_any r 10 W k9 hk9)
      rcases (show k9 = -1 ∨ 0 ≤ k9 by have := Lib.indexByte_ge r.data.toList 10; omega) with rfl | hk0
      · obtain ⟨pc, hpc⟩ : ∃ pc : Piece, pc.1 = r := ⟨⟨r, by omega⟩, rfl⟩
        have HE := hide (show lst (pre ++ [pc]) ++ linesL (⟨#[]⟩ : ByteArray).data.toList = linesL s.data.toList from by
          rw [← HS.out, linesL_miss hk9 hne, lst_snoc, hpc, show linesL (⟨#[]⟩ : ByteArray).data.toList = [] from rfl, List.append_nil])
        obtain ⟨fn, tmps, assign, body, hy, hR⟩ := HY.out pre pc (wr.setCell ⟨b, 0, none⟩ (.string ⟨#[]⟩)) (HJ.out _ _ _ hj) (by omega)
        unfold encP at hy
        rw [hpc] at hy
        have f0 := a0.frozen 0
        have HA := hide (a0.put (.string ⟨#[]⟩))
        clear hk9 HS hne hrz hpc
        gi_wp2_with (refine ⟨trivial, ?_⟩; gi_at_call 101; refine (callsIn_wide.2 (HK.out _)).mono ?_; rintro e w' ⟨rfl, rfl⟩)
        refine hR.mono ?_
        rintro e W3 (⟨rfl, hJ3, hL3⟩ | ⟨rfl, hJ3⟩)
        · have a3 := HA.out.lie hL3 hlo hhi
          gi_wp2
          go_roundw
          case rel => exact ⟨pre ++ [pc], ⟨#[]⟩, a3, hJ3, HE, by show (pre ++ [pc]).length + 0 ≤ 5000; rw [List.length_append]; simp; omega⟩
          case measure =>
            rw [strAt_eq a3.cell, HST.out]
            show 0 < r.size
            omega
        · gi_wp2
          refine bodyPost_ret (results_none rfl _ _ _) rfl ?_
          exact ⟨⟨_, rfl⟩, .inr ⟨_, ⟨_, HE.out⟩, hJ3⟩⟩
      · obtain ⟨k, rfl⟩ : ∃ k : Nat, k9 = (k : Int) := ⟨k9.toNat, by omega⟩
        obtain ⟨hroom, hll⟩ := linesL_hit hk9
        rw [← hrz] at hroom
        have hfr : (r.extract 0 (k + 1)).size = k + 1 := by simp; omega
        have hrs : (r.extract (k + 1) r.size).size = r.size - (k + 1) := by simp
        obtain ⟨pc, hpc⟩ : ∃ pc : Piece, pc.1 = r.extract 0 (k + 1) := ⟨⟨r.extract 0 (k + 1), by omega⟩, rfl⟩
        have HE := hide (show lst (pre ++ [pc]) ++ linesL (r.extract (k + 1) r.size).data.toList = linesL s.data.toList from by
          rw [← HS.out, hll, Lib.extract_to_end, lst_snoc, List.append_assoc, hpc, Lib.extract_from_zero]
          rfl)
        obtain ⟨fn, tmps, assign, body, hy, hR⟩ := HY.out pre pc (wr.setCell ⟨b, 0, none⟩ (.string (r.extract (k + 1) r.size))).drew (HJD.out _ _ (HJ.out _ _ _ hj)) (by omega)
        unfold encP at hy
        rw [hpc] at hy
        have f0 := a0.frozen 0
        have HA := hide (show Box (wr.setCell ⟨b, 0, none⟩ (.string (r.extract (k + 1) r.size))).drew b #[.string (r.extract (k + 1) r.size)] 9 from a0.put _)
        have k0 : (0 : Int) ≤ (k : Int) + 1 := by omega
        have k1 : (k : Int) + 1 ≤ (r.size : Int) := by omega
        have kn : ¬ (k : Int) < 0 := by omega
        have kw : IntKind.i64.wrap ((k : Int) + 1) = (k : Int) + 1 := IntWalk.i64_in _ (by omega)
        have kt : ((k : Int) + 1).toNat = k + 1 := by omega
        have HHR := hide hrs
        clear hk9 HS hne hrz hpc hll hfr hrs
        gi_wp2_with (refine ⟨trivial, ?_⟩; gi_at_call 101; refine (callsIn_wide.2 (HK.out _)).mono ?_; rintro e w' ⟨rfl, rfl⟩)
        gi_region
        all_goals
          gi_wp2
          refine hR.mono ?_
          rintro e W3 (⟨rfl, hJ3, hL3⟩ | ⟨rfl, hJ3⟩)
          · have a3 := HA.out.lie hL3 hlo hhi
            gi_wp2
            go_roundw
            case rel => exact ⟨pre ++ [pc], _, a3, hJ3, HE, by rw [List.length_append, HHR.out]; simp; omega⟩
            case measure =>
              rw [strAt_eq a3.cell, HST.out, HHR.out]
              omega
          · gi_wp2
            refine bodyPost_ret (results_none rfl _ _ _) rfl ?_
            exact ⟨⟨_, rfl⟩, .inr ⟨_, ⟨_, HE.out⟩, hJ3⟩⟩
end Go.Proofs.YtaapcfflnklpjaaGreatDoor
