/- The fixed results that the document gives. -/
import Derived.Test.YtledmceoeambiaaFROp
import Derived.Test.YtledmceoeambiaaFRdI
import Derived.Test.YtledmceoeambiaaFStr
import Derived.Lib.SlBytesConst
namespace Go.Proofs.Ytledmceoeambiaa
open Go Go.RowKit FM

theorem litB {w W : World} {vs : Array Value} (xs : List Nat) {n : Nat} (hW : w.alloc (.cells vs 5) = W) (hv : vs = (cells .u8 xs).toArray) (hn : xs.length = n) (hb : By xs) : Below w.heap.size w W ∧ BR W (some ⟨w.heap.size, 0, none⟩) n xs := by
  subst hW hv
  exact ⟨(Below.refl _ _).alloc (Nat.le_refl _) _, (Own.new w .u8 5 xs).rl hn, hb⟩
instance (xs : List Nat) : Decidable (By xs) := by unfold By; infer_instance
theorem br_zero {w : World} {A : Option Addr} {n : Nat} (h : BR w A n []) : n = 0 := h.len.symm
theorem seal_awake (A : Option Addr) (w : World) (h : BR w A 1 [7]) :
    Calls Try.prog 13 #[.int .u8 3, .slice A 1 1] w fun e w' => ∃ A' c', e = .returned (.tuple #[.slice A' 10 c', .int .i64 0]) ∧ BR w' A' 10 (frame 3 [7]) ∧ (10 ≤ c' ∧ c' ≤ maxLen) ∧ Below w.heap.size w w' := by
  refine Calls.mono (seal_any 3 A 1 1 [7] w h (by omega) (by omega) _ rfl) ?_
  rintro e w' ⟨A', c', rfl, hr, hb⟩
  exact ⟨A', c', rfl, hr.br (frame_by (by omega) (by decide)), Row.le hr, hb⟩
theorem open_awake (A : Option Addr) (c : Nat) (w : World) (h : BR w A 10 (frame 3 [7])) (hc : 10 ≤ c ∧ c ≤ maxLen) :
    Calls Try.prog 16 #[.slice A 10 c] w fun e w' => ∃ A1 c1 A2 c2, e = .returned (.tuple #[.int .u8 3, .slice A1 1 c1, .slice A2 0 c2, .int .i64 0]) ∧ BR w' A1 1 [7] ∧ Below w.heap.size w w' := by
  refine Calls.mono (open_any A 10 c (frame 3 [7]) w h hc.1 hc.2 (by omega) 3 [7] [] 0 (by decide +kernel) (by decide +kernel) (by decide +kernel) (by decide +kernel)) ?_
  rintro e w' ⟨A1, n1, c1, A2, n2, c2, rfl, h1, h2, hb⟩
  obtain rfl : 1 = n1 := Row.len h1
  obtain rfl : 0 = n2 := Row.len h2
  exact ⟨A1, c1, A2, c2, rfl, h1.br (by decide), hb⟩
theorem bytes_awake (A : Option Addr) (w : World) (h : BR w A 2 [8, 9]) :
    Calls Try.prog 22 #[.slice A 2 2] w fun e w' => ∃ A' c', e = .returned (.tuple #[.slice A' 4 c', .int .i64 0]) ∧ BR w' A' 4 [0, 2, 8, 9] ∧ Below w.heap.size w w' := by
  refine Calls.mono (bytesOf_any A 2 2 [8, 9] w h (by omega) [0, 2, 8, 9] (by decide +kernel)) ?_
  rintro e w' ⟨A', c', rfl, hr, hb⟩
  exact ⟨A', c', rfl, hr.br (by decide), hb⟩
theorem read_awake (A : Option Addr) (w : World) (h : BR w A 4 [0, 1, 5, 6]) :
    Calls Try.prog 24 #[.slice A 4 4] w fun e w' => ∃ A1 c1 A2 c2, e = .returned (.tuple #[.slice A1 1 c1, .slice A2 1 c2, .int .i64 0]) ∧ BR w' A1 1 [5] ∧ BR w' A2 1 [6] ∧ Below w.heap.size w w' := by
  refine Calls.mono (readBytes_any A 4 4 [0, 1, 5, 6] w h (by omega) (by unfold maxLen; omega) (by omega) [5] [6] 0 (by decide +kernel) (by decide +kernel) (by decide +kernel)) ?_
  rintro e w' ⟨A1, n1, c1, A2, n2, c2, rfl, h1, h2, hb⟩
  obtain rfl : 1 = n1 := h1.len
  obtain rfl : 1 = n2 := h2.len
  exact ⟨A1, c1, A2, c2, rfl, h1, h2, hb⟩
theorem int_awake (w : World) :
    Calls Try.prog 18 #[.int .i64 (-2)] w fun e w' => ∃ g, e = .returned (.slice (some ⟨g, 0, none⟩) 8 8) ∧ BR w' (some ⟨g, 0, none⟩) 8 [255, 255, 255, 255, 255, 255, 255, 254] ∧ Below w.heap.size w w' := by
  refine Calls.mono (int_any (-2) w [255, 255, 255, 255, 255, 255, 255, 254] (by decide +kernel)) ?_
  rintro e w' ⟨g, rfl, hr, hb⟩
  exact ⟨g, rfl, (hr.rb (n := 8) rfl (by unfold maxLen; omega)).br (by decide), hb⟩
theorem readInt_awake (g : Nat) (w : World) (h : BR w (some ⟨g, 0, none⟩) 8 [255, 255, 255, 255, 255, 255, 255, 254]) :
    Calls Try.prog 19 #[.slice (some ⟨g, 0, none⟩) 8 8] w fun e w' => ∃ A1 c1, e = .returned (.tuple #[.int .i64 (-2), .slice A1 0 c1, .int .i64 0]) ∧ Below w.heap.size w w' := by
  refine Calls.mono (readInt_any _ 8 8 _ w h (by omega) (by unfold maxLen; omega) (by omega) (-2) [] 0 (by decide +kernel) (by decide +kernel) (by decide +kernel)) ?_
  rintro e w' ⟨A1, n1, c1, rfl, h1, hb⟩
  obtain rfl : 0 = n1 := h1.len
  exact ⟨A1, c1, rfl, hb⟩
theorem litF {w W : World} {vs : Array Value} {fr : Nat × Nat} (xs : List Nat) {n : Nat} (hW : w.alloc (.cells vs 5 fr) = W) (hv : vs = (cells .u8 xs).toArray) (hn : xs.length = n) (hb : By xs) : Below w.heap.size w W ∧ BR W (some ⟨w.heap.size, 0, none⟩) n xs := by
  subst hW hv
  refine ⟨(Below.refl _ _).alloc (Nat.le_refl _) _, ⟨hn, fun _ => ⟨w.heap.size, 0, rfl, fun j x hx => ?_⟩⟩, hb⟩
  rw [Nat.zero_add, cell_of_row _ w.heap.size j _ _ fr (heap_alloc_new w _), List.getElem?_toArray, cells_getElem?, hx]
  rfl
theorem adler_abc (A : Option Addr) (w : World) (h : BR w A 3 [97, 98, 99]) :
    Calls Try.prog 11 #[.slice A 3 3] w fun e w' => e = .returned (.int .u32 38600999) ∧ w = w' :=
  adler_any A 3 3 _ w h (by unfold maxLen; omega) 38600999 (by decide +kernel)
theorem adler_nil (w : World) :
    Calls Try.prog 11 #[.slice none 0 0] w fun e w' => e = .returned (.int .u32 1) ∧ w = w' :=
  adler_any none 0 0 [] w BR.nil_ (by unfold maxLen; omega) 1 rfl
set_option maxRecDepth 100000 in
set_option maxHeartbeats 16000000 in
theorem awake_yes (w : World) : Calls Try.prog 10 #[] w fun e w' => e = .returned (.bool true) ∧ Below w.heap.size w w' := by
  have HB := hide (Below.refl w.heap.size w)
  have kc := fun (w : World) (C : Array Value) (n c : Nat) => Lib.run_convert_bytes_const (P := Try.prog) w 22 5 C n c Try.underlying22 Try.underlying5
  go_enter Try.func10, Try.ntmps10
  go_wp2_with fail
  generalize hW : World.alloc w _ = w1
  obtain ⟨hb, hl⟩ := litB [7] hW rfl rfl (by decide)
  clear hW
  have HL1 := hide hl
  clear hl
  replace HB := hide (HB.out.trans (hb.mono HB.out.size))
  clear hb
  refine (seal_awake _ _ HL1.out).mono ?_
  rintro e w2 ⟨Af, cf, rfl, hrf, hlf, hb⟩
  replace HB := hide (HB.out.trans (hb.mono HB.out.size))
  replace HL1 := hide (HL1.out.below hb)
  have HF := hide hrf
  clear hrf
  have HFl := hide hlf
  clear hlf
  clear hb
  go_wp2_with fail
  refine (open_awake Af cf _ HF.out HFl.out).mono ?_
  rintro e w3 ⟨Ad, cd, Ae, ce, rfl, hrd, hb⟩
  replace HB := hide (HB.out.trans (hb.mono HB.out.size))
  replace HL1 := hide (HL1.out.below hb)
  replace HF := hide (HF.out.below hb)
  have HD := hide hrd
  clear hrd
  clear hb
  go_wp2_with fail
  generalize hW : World.alloc w3 _ = w4
  obtain ⟨hb, hl⟩ := litB [8, 9] hW rfl rfl (by decide)
  clear hW
  have HL2 := hide hl
  clear hl
  replace HB := hide (HB.out.trans (hb.mono HB.out.size))
  replace HL1 := hide (HL1.out.below hb)
  replace HF := hide (HF.out.below hb)
  replace HD := hide (HD.out.below hb)
  clear hb
  refine (bytes_awake _ _ HL2.out).mono ?_
  rintro e w5 ⟨As, cs, rfl, hrs, hb⟩
  replace HB := hide (HB.out.trans (hb.mono HB.out.size))
  replace HL1 := hide (HL1.out.below hb)
  replace HF := hide (HF.out.below hb)
  replace HD := hide (HD.out.below hb)
  replace HL2 := hide (HL2.out.below hb)
  have HS := hide hrs
  clear hrs
  clear hb
  go_wp2_with fail
  generalize hW : World.alloc w5 _ = w6
  obtain ⟨hb, hl⟩ := litB [0, 1, 5, 6] hW rfl rfl (by decide)
  clear hW
  have HL3 := hide hl
  clear hl
  replace HB := hide (HB.out.trans (hb.mono HB.out.size))
  replace HL1 := hide (HL1.out.below hb)
  replace HF := hide (HF.out.below hb)
  replace HD := hide (HD.out.below hb)
  replace HL2 := hide (HL2.out.below hb)
  replace HS := hide (HS.out.below hb)
  clear hb
  refine (read_awake _ _ HL3.out).mono ?_
  rintro e w7 ⟨Ax, cx, Ay, cy, rfl, hrx, hry, hb⟩
  replace HB := hide (HB.out.trans (hb.mono HB.out.size))
  replace HL1 := hide (HL1.out.below hb)
  replace HF := hide (HF.out.below hb)
  replace HD := hide (HD.out.below hb)
  replace HL2 := hide (HL2.out.below hb)
  replace HS := hide (HS.out.below hb)
  replace HL3 := hide (HL3.out.below hb)
  have HX := hide hrx
  clear hrx
  have HY := hide hry
  clear hry
  clear hb
  go_wp2_with fail
  refine (int_awake _).mono ?_
  rintro e w8 ⟨gi, rfl, hri, hb⟩
  replace HB := hide (HB.out.trans (hb.mono HB.out.size))
  replace HL1 := hide (HL1.out.below hb)
  replace HF := hide (HF.out.below hb)
  replace HD := hide (HD.out.below hb)
  replace HL2 := hide (HL2.out.below hb)
  replace HS := hide (HS.out.below hb)
  replace HL3 := hide (HL3.out.below hb)
  replace HX := hide (HX.out.below hb)
  replace HY := hide (HY.out.below hb)
  have HI := hide hri
  clear hri
  clear hb
  go_wp2_with fail
  refine (readInt_awake gi _ HI.out).mono ?_
  rintro e w9 ⟨Aj, cj, rfl, hb⟩
  replace HB := hide (HB.out.trans (hb.mono HB.out.size))
  replace HL1 := hide (HL1.out.below hb)
  replace HF := hide (HF.out.below hb)
  replace HD := hide (HD.out.below hb)
  replace HL2 := hide (HL2.out.below hb)
  replace HS := hide (HS.out.below hb)
  replace HL3 := hide (HL3.out.below hb)
  replace HX := hide (HX.out.below hb)
  replace HY := hide (HY.out.below hb)
  replace HI := hide (HI.out.below hb)
  clear hb
  go_wp2_with fail
  generalize hW : World.alloc w9 _ = w10
  obtain ⟨hb, hl⟩ := litF [97, 98, 99] hW rfl rfl (by decide)
  clear hW
  have HL4 := hide hl
  clear hl
  replace HB := hide (HB.out.trans (hb.mono HB.out.size))
  replace HL1 := hide (HL1.out.below hb)
  replace HF := hide (HF.out.below hb)
  replace HD := hide (HD.out.below hb)
  replace HL2 := hide (HL2.out.below hb)
  replace HS := hide (HS.out.below hb)
  replace HL3 := hide (HL3.out.below hb)
  replace HX := hide (HX.out.below hb)
  replace HY := hide (HY.out.below hb)
  replace HI := hide (HI.out.below hb)
  clear hb
  refine (adler_abc _ _ HL4.out).mono ?_
  rintro e w11 ⟨rfl, rfl⟩
  go_wp2_with fail
  refine (adler_nil _).mono ?_
  rintro e w12 ⟨rfl, rfl⟩
  go_wp2_with fail
  generalize hW : World.alloc w10 _ = w13
  obtain ⟨hb, hl⟩ := litB [7] hW rfl rfl (by decide)
  clear hW
  have HL5 := hide hl
  clear hl
  replace HB := hide (HB.out.trans (hb.mono HB.out.size))
  replace HL1 := hide (HL1.out.below hb)
  replace HF := hide (HF.out.below hb)
  replace HD := hide (HD.out.below hb)
  replace HL2 := hide (HL2.out.below hb)
  replace HS := hide (HS.out.below hb)
  replace HL3 := hide (HL3.out.below hb)
  replace HX := hide (HX.out.below hb)
  replace HY := hide (HY.out.below hb)
  replace HI := hide (HI.out.below hb)
  replace HL4 := hide (HL4.out.below hb)
  clear hb
  refine (same_any Ad 1 cd [7] _ 1 1 [7] _ HD.out HL5.out true rfl).mono ?_
  rintro e w14 ⟨rfl, rfl⟩
  go_wp2_with fail
  generalize hW : World.alloc w13 _ = w15
  obtain ⟨hb, hl⟩ := litB [0, 2, 8, 9] hW rfl rfl (by decide)
  clear hW
  have HL6 := hide hl
  clear hl
  replace HB := hide (HB.out.trans (hb.mono HB.out.size))
  replace HL1 := hide (HL1.out.below hb)
  replace HF := hide (HF.out.below hb)
  replace HD := hide (HD.out.below hb)
  replace HL2 := hide (HL2.out.below hb)
  replace HS := hide (HS.out.below hb)
  replace HL3 := hide (HL3.out.below hb)
  replace HX := hide (HX.out.below hb)
  replace HY := hide (HY.out.below hb)
  replace HI := hide (HI.out.below hb)
  replace HL4 := hide (HL4.out.below hb)
  replace HL5 := hide (HL5.out.below hb)
  clear hb
  refine (same_any As 4 cs [0, 2, 8, 9] _ 4 4 [0, 2, 8, 9] _ HS.out HL6.out true rfl).mono ?_
  rintro e w16 ⟨rfl, rfl⟩
  go_wp2_with fail
  generalize hW : World.alloc w15 _ = w17
  obtain ⟨hb, hl⟩ := litB [5] hW rfl rfl (by decide)
  clear hW
  have HL7 := hide hl
  clear hl
  replace HB := hide (HB.out.trans (hb.mono HB.out.size))
  replace HL1 := hide (HL1.out.below hb)
  replace HF := hide (HF.out.below hb)
  replace HD := hide (HD.out.below hb)
  replace HL2 := hide (HL2.out.below hb)
  replace HS := hide (HS.out.below hb)
  replace HL3 := hide (HL3.out.below hb)
  replace HX := hide (HX.out.below hb)
  replace HY := hide (HY.out.below hb)
  replace HI := hide (HI.out.below hb)
  replace HL4 := hide (HL4.out.below hb)
  replace HL5 := hide (HL5.out.below hb)
  replace HL6 := hide (HL6.out.below hb)
  clear hb
  refine (same_any Ax 1 cx [5] _ 1 1 [5] _ HX.out HL7.out true rfl).mono ?_
  rintro e w18 ⟨rfl, rfl⟩
  go_wp2_with fail
  generalize hW : World.alloc w17 _ = w19
  obtain ⟨hb, hl⟩ := litB [6] hW rfl rfl (by decide)
  clear hW
  have HL8 := hide hl
  clear hl
  replace HB := hide (HB.out.trans (hb.mono HB.out.size))
  replace HL1 := hide (HL1.out.below hb)
  replace HF := hide (HF.out.below hb)
  replace HD := hide (HD.out.below hb)
  replace HL2 := hide (HL2.out.below hb)
  replace HS := hide (HS.out.below hb)
  replace HL3 := hide (HL3.out.below hb)
  replace HX := hide (HX.out.below hb)
  replace HY := hide (HY.out.below hb)
  replace HI := hide (HI.out.below hb)
  replace HL4 := hide (HL4.out.below hb)
  replace HL5 := hide (HL5.out.below hb)
  replace HL6 := hide (HL6.out.below hb)
  replace HL7 := hide (HL7.out.below hb)
  clear hb
  refine (same_any Ay 1 cy [6] _ 1 1 [6] _ HY.out HL8.out true rfl).mono ?_
  rintro e w20 ⟨rfl, rfl⟩
  go_wp2_with fail
  go_ret
  exact ⟨rfl, HB.out⟩
end Go.Proofs.Ytledmceoeambiaa
