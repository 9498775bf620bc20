/- specimen.Export. -/
import Derived.Test.YtaapcfflnklpjaaGreatDoorSK
import Derived.Test.YtaapcfflnklpjaaGreatDoorSC
import Derived.Test.YtaapcfflnklpjaaGreatDoorShelf3
import Derived.Lib.Builder
namespace Go.Proofs.YtaapcfflnklpjaaGreatDoor
open Go Go.RowKit Go.Lib
theorem write_any (B b : Nat) (bs : List Value) (s : ByteArray) (w : World) (h : Lib.IsBuilder 82 5 B b bs w) (hlen : bs.length + s.size ≤ 5000000) (hBw : B ≤ w.heap.size) :
    Calls Tryz.prog 68 #[.pointer (some ⟨b, 0, none⟩), .string s] w fun e w' => e = .returned (.tuple #[.int .i64 s.size, .nilIface]) ∧ (Lib.BuilderAt 82 5 B b (.pointer (some ⟨b, 0, none⟩)) (bs ++ Lib.strCells s) w' ∧ Below B w w') :=
  Any.Builder_WriteString (ρ := Tryz.lays156_ren) { Tryz.lays156 with } Tryz.Builder_Extra_156 B b bs s w h (by omega) hBw
theorem string_any (B b : Nat) (l : List UInt8) (w : World) (h : Lib.IsBuilder 82 5 B b (Lib.byteCells l) w) (hBw : B ≤ w.heap.size) (S : ByteArray) (hS : strB l = S) :
    Calls Tryz.prog 69 #[.pointer (some ⟨b, 0, none⟩)] w fun e w' => e = .returned (.string S) ∧ Below B w w' := by
  refine (Tryz.Builder_String_any B b l w h hBw).mono ?_
  rintro e w' ⟨rfl, hb⟩
  exact ⟨by rw [← hS]; rfl, hb⟩
theorem builder_keep {T e : TypeId} {B b : Nat} {bs : List Value} {w w' : World} (h : Lib.IsBuilder T e B b bs w) (hb : Below w.heap.size w w') : Lib.IsBuilder T e B b bs w' := by
  have g : ∀ p, Lib.BuilderAt T e B b p bs w → Lib.BuilderAt T e B b p bs w' := fun p h => by
    have hl := h.lt
    obtain ⟨hB, v, hk, ho, hn⟩ := h
    exact ⟨hB, v, (hb.block b hl).trans hk, own_keep9 ho hb, hn⟩
  exact h.elim (fun h => .inl (g _ h)) (fun h => .inr (g _ h))
theorem builder_new (w : World) : Lib.IsBuilder 82 5 w.heap.size w.heap.size (Lib.byteCells []) (w.alloc (.cells #[.pointer none, .slice none 0 0] 82)) :=
  .inl ⟨Nat.le_refl _, _, heap_alloc_new w _, ⟨rfl, .inl ⟨rfl, rfl⟩⟩, by simp [Value.ownBlock]⟩
theorem strCells_strB (l : List UInt8) : Lib.strCells (strB l) = Lib.byteCells l := by
  unfold Lib.strCells Lib.byteCells
  rw [data_strB]
/-- what Export gives -/
def GivesE (ys : List Spc) (w : World) (e : Ending) (w' : World) : Prop :=
  ∃ t, e = .returned (.tuple #[.string t, .int .i64 (chk ys)]) ∧ ER9 ys t (chk ys) ∧ Below w.heap.size w w'
set_option maxHeartbeats 2000000 in
theorem export_err (A : Option Addr) (n c : Nat) (ys : List Spc) (w : World) (hr : SL w A n ys) (h : chk ys ≠ 0) :
    Calls Tryz.prog 32 #[.slice A n c] w (GivesE ys w) := by
  have HR := hide hr
  have HH := hide h
  have hl : chk ys = 6 ∨ chk ys = 1 ∨ chk ys = 8 := by rcases chk_cases ys with h' | h'; exact absurd h' h; exact h'
  obtain ⟨r, hrr⟩ : ∃ r, chk ys = r := ⟨_, rfl⟩
  rw [hrr] at hl
  have H := hide hrr
  clear hr h hrr
  rcases hl with rfl | rfl | rfl
  all_goals
    go_enter Tryz.func32, Tryz.ntmps32
    go_wp2_with fail
    refine (sort_any A n c ys _ HR.out).mono ?_
    rintro e w1 ⟨A1, n1, d1, zs, rfl, hs, h1, h2, hb⟩
    rw [H.out]
    go_wp2_with fail
    go_ret2
    exact ⟨⟨#[]⟩, by rw [H.out]; rfl, ⟨rfl, fun h => absurd h HH.out, fun _ => rfl⟩, hb⟩
set_option maxHeartbeats 8000000 in
set_option maxRecDepth 100000 in
theorem export_ok (A : Option Addr) (n c : Nat) (ys : List Spc) (w : World) (hT : Lw w) (hr : SL w A n ys) (h : chk ys = 0) :
    Calls Tryz.prog 32 #[.slice A n c] w (GivesE ys w) := by
  have HR := hide hr
  have H := hide h
  have HT := hide hT
  clear hr h hT
  go_enter Tryz.func32, Tryz.ntmps32
  go_wp2_with fail
  refine (sort_any A n c ys _ HR.out).mono ?_
  rintro e w1 ⟨A1, n1, d1, zs, rfl, hs, h1, h2, hb⟩
  rw [H.out]
  have HS := hide (h1 H.out)
  have HZ := hide (HS.out.chk H.out)
  have hn1 : n1 ≤ 64 := by
    have := (chk_ok.1 HZ.out).1
    rw [hs.1] at this
    exact this
  have HSL := hide hs
  have HB := hide hb
  clear h1 h2 hs hb
  go_wp2_with fail
  have HBN := hide (builder_new w1)
  have HBW := hide ((Below.refl w1.heap.size w1).alloc (Nat.le_refl _) (.cells #[.pointer none, .slice none 0 0] 82))
  go_loopw [19] (fun i wr => ∃ k : Nat, i = .int .i64 (k : Int) ∧ k ≤ n1 ∧ Hid (Lib.IsBuilder 82 5 w1.heap.size w1.heap.size (Lib.byteCells (expL (zs.take k))) wr) ∧ Hid (Below w1.heap.size w1 wr)) (fun i _ => n1 - (RowKit.intOf i).toNat)
  case atStart => exact ⟨0, rfl, Nat.zero_le _, HBN, HBW⟩
  case round =>
    obtain ⟨k, rfl, hk, HI, HBR⟩ := hrel
    have hsz := HBR.out.size
    by_cases hlt : k < n1
    · have d0 : decide ((k : Int) < (n1 : Int)) = true := decide_eq_true (by omega)
      obtain ⟨b, o, y, rfl, hbl, hy, k0, k1, k2, k3, k4, k5, k6⟩ := (HSL.out.keep HBR.out).at_ hlt
      have hv : vS y = true := (chk_ok.1 HZ.out).2.1 y (List.mem_of_getElem? hy)
      obtain ⟨S, hS⟩ : ∃ S, spT y = S := ⟨_, rfl⟩
      have hz := spT_size y
      rw [hS] at hz
      have A1 := fun (W : World) => add_run S ⟨#[10]⟩ (by rw [show (⟨#[10]⟩ : ByteArray).size = 1 from rfl]; omega) W
      have HSS := hide hS
      have HST := hide (show Lib.byteCells (expL (zs.take (k + 1))) = Lib.byteCells (expL (zs.take k)) ++ Lib.strCells (S ++ ⟨#[10]⟩) by
        rw [List.take_add_one, hy]
        show Lib.byteCells (expL (zs.take k ++ [y])) = _
        rw [expL_snoc, ← hS, spT_true hv, show (⟨#[10]⟩ : ByteArray) = strB [10] from rfl, strB_app, strCells_strB]
        unfold Lib.byteCells
        rw [List.map_append])
      have HLEN := hide (show (Lib.byteCells (expL (zs.take k))).length + (S ++ (⟨#[10]⟩ : ByteArray)).size ≤ 5000000 by
        rw [Lib.byteCells_length, ByteArray.size_append, show (⟨#[10]⟩ : ByteArray).size = 1 from rfl]
        have := expL_len (xs := zs.take k) fun x hx => (chk_ok.1 HZ.out).2.1 x (List.mem_of_mem_take hx)
        rw [List.length_take] at this
        omega)
      clear hy hv hS hz
      go_wp2_with fail
      clear k0 k1 k2 k3 k4 k5 k6
      refine (text9_any y _ (HT.out.below (nxt HB.out (nxt HBR.out ((Below.refl _ _).alloc (Nat.le_refl _) _)))) S HSS.out).mono ?_
      rintro e w3 ⟨rfl, hb3⟩
      have hb4 := nxt ((Below.refl wr.heap.size wr).alloc (Nat.le_refl _) (.cells #[.int .i64 y.i, .int .i64 y.o, .int .i64 y.r, .int .i64 y.a, .int .i64 y.b, .int .i64 y.h, .int .i64 y.m] 23)) hb3
      have HI3 := hide (builder_keep HI.out hb4)
      have HB3 := hide (nxt HBR.out hb4)
      have hs3 := HB3.out.size
      clear hb3 hb4
      go_wp2_with fail
      refine (write_any _ _ _ _ _ HI3.out HLEN.out hs3).mono ?_
      rintro e w4 ⟨rfl, hb, hb4⟩
      have HI4 := hide hb
      have HB4 := hide (HB3.out.trans hb4)
      clear hb hb4
      go_wp2_with fail
      go_roundw
      case rel =>
        refine ⟨k + 1, by go_num, by omega, hide (.inr ?_), HB4⟩
        rw [HST.out]
        exact HI4.out
      case measure => simp [RowKit.intOf]; omega
    · obtain rfl : k = n1 := by omega
      have d0 : decide ((k : Int) < (k : Int)) = false := decide_eq_false (by omega)
      go_wp2_with fail
      refine (string_any _ _ _ _ HI.out hsz _ rfl).mono ?_
      rintro e w5 ⟨rfl, hb5⟩
      go_wp2_with fail
      go_ret2
      refine ⟨strB (expL (zs.take k)), by rw [H.out]; rfl, ⟨rfl, fun _ => ⟨zs, HS.out, ?_⟩, fun h => absurd H.out h⟩, nxt HB.out (HBR.out.trans hb5)⟩
      rw [List.take_of_length_le (by rw [HSL.out.1]; exact Nat.le_refl _)]
theorem export_any (A : Option Addr) (n c : Nat) (ys : List Spc) (w : World) (hT : Lw w) (hr : SL w A n ys) :
    Calls Tryz.prog 32 #[.slice A n c] w (GivesE ys w) := by
  by_cases h : chk ys = 0
  · exact export_ok A n c ys w hT hr h
  · exact export_err A n c ys w hr h
end Go.Proofs.YtaapcfflnklpjaaGreatDoor
