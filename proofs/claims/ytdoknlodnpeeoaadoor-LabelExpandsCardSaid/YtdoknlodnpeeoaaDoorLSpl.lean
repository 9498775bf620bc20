/- strings.SplitSeq. -/
import Derived.Test.YtdoknlodnpeeoaaDoorLSpM
import Derived.Test.YtdoknlodnpeeoaaDoorRf
import Derived.Test.YtdoknlodnpeeoaaDoorShelf6
namespace Go.Proofs.YtdoknlodnpeeoaaDoor
open Go Go.RowKit Go.Lib Go.Shelf
attribute [local go_sem] Oper.semAt_some

/-- a piece -/
abbrev Piece := { x : ByteArray // x.size ≤ 1000 }
def encP (x : Piece) : Array Value := #[.string x.1]
def lst (xs : List Piece) : List (List UInt8) := xs.map fun x => x.1.data.toList
/-- the library's variable is there -/
def Big (A : World) : Prop := ∃ m : Int, A.cell? ⟨2, 0, none⟩ = some (.int .i64 m)
theorem sindex_any (s : ByteArray) (W : World) (hs : s.size ≤ 1000) (hb : Big W) (r : Int) (hr : Lib.index s.data.toList sepL = r) :
    Calls Tryd.prog 95 #[.string s, .string ⟨#[44, 32]⟩] W fun e w' => e = .returned (.int .i64 r) ∧ w' = W := by
  obtain ⟨m, hm⟩ := hb
  refine (Tryd.strings_Index s ⟨#[44, 32]⟩ m W (by omega) hm).mono ?_
  rintro e w' ⟨rfl, rfl⟩
  exact ⟨by rw [← hr]; rfl, rfl⟩
set_option maxHeartbeats 1000000 in
theorem splitseq0 (s : ByteArray) (w : World) :
    Calls Tryd.prog 80 #[.string s, .string ⟨#[44, 32]⟩, .int .i64 0] w fun e w' => e = .returned (.func (.func 94) #[] #[.pointer (some ⟨w.heap.size + 1, 0, none⟩), .pointer (some ⟨w.heap.size, 0, none⟩), .pointer (some ⟨w.heap.size + 2, 0, none⟩)]) ∧
      w' = ((w.alloc (.cells #[.string s] 9)).alloc (.cells #[.string ⟨#[44, 32]⟩] 9)).alloc (.cells #[.int .i64 0] 3) := by
  go_enter Tryd.func80, Tryd.ntmps80
  go_wp2_with fail
  go_ret
  exact ⟨rfl, rfl⟩
set_option maxHeartbeats 1000000 in
theorem splitseq_any (s : ByteArray) (w : World) :
    Calls Tryd.prog 64 #[.string s, .string ⟨#[44, 32]⟩] w fun e w' => e = .returned (.func (.func 94) #[] #[.pointer (some ⟨w.heap.size + 1, 0, none⟩), .pointer (some ⟨w.heap.size, 0, none⟩), .pointer (some ⟨w.heap.size + 2, 0, none⟩)]) ∧
      w' = ((w.alloc (.cells #[.string s] 9)).alloc (.cells #[.string ⟨#[44, 32]⟩] 9)).alloc (.cells #[.int .i64 0] 3) := by
  go_enter Tryd.func64, Tryd.ntmps64
  go_wp2_with fail
  refine (splitseq0 s _).mono ?_
  rintro e w' ⟨rfl, rfl⟩
  go_wp2_with fail
  go_ret
  exact ⟨rfl, rfl⟩
def strAt (b : Nat) (w : World) : Nat := match w.cell? ⟨b, 0, none⟩ with
  | some (.string r) => r.size
  | _ => 0
theorem strAt_eq {w : World} {b : Nat} {r : ByteArray} (h : w.cell? ⟨b, 0, none⟩ = some (.string r)) : strAt b w = r.size := by unfold strAt; rw [h]
theorem Box.lie {lo hi b : Nat} {A B : World} {vs : Array Value} {t : TypeId} (h : Box A b vs t) (hl : Lie lo hi A B) (h1 : lo ≤ b) (h2 : b < hi) : Box B b vs t := (hl b h1 h2).trans h
set_option maxRecDepth 100000 in
set_option maxHeartbeats 4000000 in
theorem split_iter (n : Nat) (hn : 1 ≤ n) (b l lo hi : Nat) (hlo : lo ≤ b) (hhi : b + 2 < hi) (s : ByteArray) (hs : s.size ≤ 1000) (w : World) (h0 : Box w b #[.string s] 9) (h1 : Box w (b + 1) #[.string ⟨#[44, 32]⟩] 9) (h2 : Box w (b + 2) #[.int .i64 0] 3) :
    Iter Fence.wide n Tryd.prog 94 #[.pointer (some ⟨b + 1, 0, none⟩), .pointer (some ⟨b, 0, none⟩), .pointer (some ⟨b + 2, 0, none⟩)] encP Big l lo hi b (fun xs => lst xs = splitL s.data.toList) (fun pre => ∃ rest, lst pre ++ rest = splitL s.data.toList) 2000 w := by
  intro J Jx W hW hJ hJx hM hY h0J
  have a0 := h0.lie hW hlo (by omega)
  have a1 := h1.lie hW (by omega) (by omega)
  have a2 := h2.lie hW (by omega) hhi
  have HJ := hide hJ
  have HJX := hide hJx
  have HM := hide hM
  have HY := hide hY
  have HZ := hide (Lib.size_eq s)
  clear hW h0 h1 h2 hJ hJx hM hY
  refine callsIn_of_wp Tryd.func94 rfl trivial ?_ rfl
  simp only [Tryd.ntmps94, List.size_toArray, List.length_cons, List.length_nil, Nat.reduceAdd, Nat.reduceSub, Array.replicate_succ, Array.replicate_zero, List.push_toArray, List.append_toArray, List.nil_append, List.cons_append]
  have c1 := a1.cell
  have e1 : (⟨#[44, 32]⟩ : ByteArray).size = 2 := rfl
  gi_wp2
  gi_loopw [] (fun wr => ∃ (pre : List Piece) (r : ByteArray), Box wr b #[.string r] 9 ∧ Box wr (b + 1) #[.string ⟨#[44, 32]⟩] 9 ∧ Box wr (b + 2) #[.int .i64 0] 3 ∧ J pre wr ∧ Hid (lst pre ++ splitL r.data.toList = splitL s.data.toList) ∧ pre.length + r.size ≤ 1000) (fun wr => strAt b wr)
  case atStart => exact ⟨[], s, a0, a1, a2, h0J, hide rfl, by simpa using hs⟩
  case round =>
    clear a0 a1 a2 h0J c1
    obtain ⟨pre, r, a0, a1, a2, hj, HS, hlen⟩ := hrel
    have c0 := a0.cell
    have HST := hide (strAt_eq c0)
    have c1 := a1.cell
    have c2 := a2.cell
    have hrz := Lib.size_eq r
    have HRZ := hide hrz
    clear hrz
    by_cases hneg : Lib.index r.data.toList sepL < 0
    · have HX := hide (rfl : Lib.index r.data.toList sepL = Lib.index r.data.toList sepL)
      obtain ⟨k, hk⟩ : ∃ k, Lib.index r.data.toList sepL = k := ⟨_, rfl⟩
      have HK := hide (fun W hb => sindex_any r W (by omega) hb k hk)
      have HE := hide (show lst (pre ++ [⟨r, by omega⟩]) = splitL s.data.toList from by
        rw [← HS.out, splitL_no hneg]; unfold lst; simp)
      rw [hk] at hneg
      obtain ⟨fn, tmps, assign, body, hy, hR⟩ := HY.out pre ⟨r, by omega⟩ wr hj (by omega)
      unfold encP at hy
      dsimp only at hy
      have hbig := HM.out _ _ hj
      clear hk HX HS
      gi_wp2_with (refine ⟨trivial, ?_⟩; gi_at_call 95; refine (callsIn_wide.2 (HK.out _ hbig)).mono ?_; rintro e w' ⟨rfl, rfl⟩)
      refine hR.mono ?_
      rintro e W3 (⟨rfl, hJ3, -⟩ | ⟨rfl, hJ3⟩)
      · gi_wp2
        go_end0
        exact ⟨⟨_, rfl⟩, .inl ⟨_, HE.out, hJ3⟩⟩
      · gi_wp2
        go_end0
        exact ⟨⟨_, rfl⟩, .inr ⟨_, ⟨[], by rw [List.append_nil]; exact HE.out⟩, hJ3⟩⟩
    · obtain ⟨k, hk⟩ : ∃ k : Nat, Lib.index r.data.toList sepL = (k : Int) := ⟨(Lib.index r.data.toList sepL).toNat, by omega⟩
      have HK := hide (fun W hb => sindex_any r W (by omega) hb (k : Int) hk)
      have hroom := (index_room _ k hk).1
      rw [← HRZ.out] at hroom
      have hfr : (r.extract 0 k).size = k := by simp; omega
      have hrs : (r.extract (k + 2) r.size).size = r.size - (k + 2) := by simp
      obtain ⟨pc, hpc⟩ : ∃ pc : Piece, pc.1 = r.extract 0 k := ⟨⟨r.extract 0 k, by omega⟩, rfl⟩
      have HE := hide (show lst (pre ++ [pc]) ++ splitL (r.extract (k + 2) r.size).data.toList = splitL s.data.toList from by
        rw [← HS.out, splitL_yes hk, Lib.extract_to_end]
        unfold lst
        rw [List.map_append, List.append_assoc]
        congr 1
        show pc.1.data.toList :: _ = _
        rw [hpc]
        congr 1
        simp [ByteArray.data_extract])
      obtain ⟨fn, tmps, assign, body, hy, hR⟩ := HY.out pre pc wr hj (by omega)
      unfold encP at hy
      rw [hpc] at hy
      have hbig := HM.out _ _ hj
      have k0 : (0 : Int) ≤ (k : Int) := by omega
      have k1 : (k : Int) ≤ (r.size : Int) := by omega
      have k2 : (k : Int) + 2 ≤ (r.size : Int) := by omega
      have kn : ¬ (k : Int) < 0 := by omega
      have k9 : r.size ≤ 1000 := by omega
      have HHR := hide hrs
      clear hk HS hneg hfr hrs hpc
      gi_wp2_with (refine ⟨trivial, ?_⟩; gi_at_call 95; refine (callsIn_wide.2 (HK.out _ hbig)).mono ?_; rintro e w' ⟨rfl, rfl⟩)
      refine hR.mono ?_
      rintro e W3 (⟨rfl, hJ3, hL3⟩ | ⟨rfl, hJ3⟩)
      · replace a0 := a0.lie hL3 hlo (by omega)
        replace a1 := a1.lie hL3 (by omega) (by omega)
        replace a2 := a2.lie hL3 (by omega) hhi
        have c0 := a0.cell
        have c1 := a1.cell
        have f0 := a0.frozen 0
        gi_wp2
        go_roundw
        case rel =>
          refine ⟨pre ++ [pc], r.extract (k + 2) r.size, a0.put _, a1.far (show b + 1 ≠ b by omega) _, a2.far (show b + 2 ≠ b by omega) _, HJ.out _ _ _ hJ3, HE, ?_⟩
          rw [HHR.out]; simp; omega
        case measure =>
          rw [strAt_eq (a0.put _).cell, HST.out, HHR.out]; omega
      · gi_wp2
        refine bodyPost_ret (results_none rfl _ _ _) rfl ?_
        exact ⟨⟨_, rfl⟩, .inr ⟨_, ⟨_, HE.out⟩, hJ3⟩⟩
end Go.Proofs.YtdoknlodnpeeoaaDoor
