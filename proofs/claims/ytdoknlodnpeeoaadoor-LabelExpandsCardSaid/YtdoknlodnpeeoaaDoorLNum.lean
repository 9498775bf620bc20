/- label.numbers. -/
import Derived.Test.YtdoknlodnpeeoaaDoorLIRow
namespace Go.Proofs.YtdoknlodnpeeoaaDoor
open Go Go.RowKit Go.Lib Go.Shelf
attribute [local go_sem] Oper.semAt_some

/-- a slice of ints and a bool -/
def GivesU (o : Option (List Nat)) (w : World) (e : Ending) (w' : World) : Prop :=
  (∃ A c L f, e = .returned (.tuple #[.slice A L.length c, .bool f]) ∧ RL w' .i64 A L.length L ∧ L.length ≤ c ∧ c ≤ maxLen ∧ ((o = some L ∧ f = true) ∨ (o = none ∧ f = false ∧ L = []))) ∧ Below w.heap.size w w'
/-- what ends gives -/
def EndsQ (l : List UInt8) (w : World) (e : Ending) (w' : World) : Prop :=
  (∃ x y ok, e = .returned (.tuple #[.int .i64 x, .int .i64 y, .bool ok]) ∧ ((ok = true ∧ endsL l = some (x, y)) ∨ (ok = false ∧ endsL l = none))) ∧ Below w.heap.size w w'
theorem cut_le5 (l : List UInt8) : (Lib.cut l [45]).1.length ≤ l.length ∧ (Lib.cut l [45]).2.1.length ≤ l.length := by
  unfold Lib.cut
  split
  · exact ⟨by simp only [List.length_take]; omega, by simp only [List.length_drop]; omega⟩
  · exact ⟨Nat.le_refl _, by simp⟩
theorem ends_any (s : ByteArray) (hs : s.size ≤ 1000) (w : World) (hT : Lw w) : Calls Tryd.prog 65 #[.string s] w (EndsQ s.data.toList w) := by
  have hl := cut_le5 s.data.toList
  have hz := Lib.size_eq s
  have z1 : (strB (Lib.cut s.data.toList [45]).1).size ≤ 1000 := by rw [strB_size]; omega
  have z2 : (strB (Lib.cut s.data.toList [45]).2.1).size ≤ 1000 := by rw [strB_size]; omega
  have hC : ∀ f, (Lib.cut s.data.toList [45]).2.2 = f → _ := fun f hf => cut_any s 45 w hT (by omega) _ _ f rfl rfl hf
  rcases hf : (Lib.cut s.data.toList [45]).2.2 with _ | _
  · refine (ends_way s w hT _ _ _ false (.inr ⟨rfl, rfl⟩) z1 z1 (hC false hf)).mono ?_
    rintro e w' ⟨⟨x, y, ok, rfl, h⟩, hb⟩
    refine ⟨⟨x, y, ok, rfl, ?_⟩, hb⟩
    rw [data_strB] at h
    unfold endsL
    rw [hf]
    rcases h with ⟨h0, h1, h2⟩ | ⟨h0, h1⟩
    · rw [h1] at h2
      injection h2 with h2
      subst h2
      exact .inl ⟨h0, by simp [h1]⟩
    · rcases h1 with h1 | h1
      · exact .inr ⟨h0, by simp [h1]⟩
      · exact .inr ⟨h0, by simp [h1]⟩
  · refine (ends_way s w hT _ _ _ true (.inl ⟨rfl, rfl⟩) z1 z2 (hC true hf)).mono ?_
    rintro e w' ⟨⟨x, y, ok, rfl, h⟩, hb⟩
    refine ⟨⟨x, y, ok, rfl, ?_⟩, hb⟩
    rw [data_strB, data_strB] at h
    unfold endsL
    rw [hf]
    rcases h with ⟨h0, h1, h2⟩ | ⟨h0, h1⟩
    · exact .inl ⟨h0, by simp [h1, h2]⟩
    · rcases h1 with h1 | h1
      · exact .inr ⟨h0, by simp [h1]⟩
      · refine .inr ⟨h0, ?_⟩
        rcases endL (Lib.cut s.data.toList [45]).1 with _ | a
        · rfl
        · simp [h1]
/-- the lists stay short -/
theorem uptoL_len (a : Nat) : ∀ k, (uptoL a k).length = k
  | 0 => rfl
  | k + 1 => by unfold uptoL; rw [List.length_append, uptoL_len a k]; rfl
theorem gstep_len {L : List Nat} {nx : Nat} {x : List UInt8} {L' : List Nat} {nx' : Nat} (h : gstep (L, nx) x = some (L', nx')) (hl : L.length + 1 ≤ nx) : L'.length + 1 ≤ nx' ∧ nx' ≤ 1000 := by
  unfold gstep at h
  rcases he : endsL x with _ | ⟨a, b⟩
  · rw [he] at h; cases h
  · rw [he] at h
    simp only at h
    split at h
    · rename_i hc
      injection h with h
      injection h with h1 h2
      subst h1; subst h2
      rw [List.length_append, uptoL_len]
      omega
    · cases h
/-- between two rounds -/
def NI (g : Nat) (w : World) (pre : List Piece) (W : World) : Prop :=
  ∃ (L : List Nat) (nx : Nat) (A : Option Addr) (n c : Nat), gfold (some ([], 1)) (lst pre) = some (L, nx) ∧ Box W g #[.slice none 0 0] 34 ∧ Box W (g + 1) #[.bool false] 4 ∧ Box W (g + 1 + 1) #[.slice A n c] 34 ∧ Box W (g + 1 + 1 + 1) #[.int .i64 (nx : Int)] 3 ∧
    IR W (g + 9) A n c L ∧ Below g w W ∧ L.length + 1 ≤ nx ∧ nx ≤ 1000
/-- where a round has said 'no more' -/
def NX (g : Nat) (w : World) (c : Code) (pre : List Piece) (W : World) : Prop := c = .ret ∧ gfold (some ([], 1)) (lst pre) = none ∧ Box W g #[.slice none 0 0] 34 ∧ Box W (g + 1) #[.bool false] 4 ∧ Below g w W
theorem Box.putO {w : World} {g l : Nat} {vs : Array Value} {t : TypeId} (h : Box w g vs t) (o : Obj) (hl : g ≠ l) : Box (w.putObj l o) g vs t := (World.putObj_heap_other hl).trans h
theorem below_putO {B l : Nat} {w W : World} (h : Below B w W) (o : Obj) (hl : B ≤ l) : Below B w (W.putObj l o) :=
  ⟨h.os, h.tape, h.output, by rw [World.putObj_size]; exact h.size, fun k hk => (World.putObj_heap_other (by omega)).trans (h.block k hk)⟩
theorem NI.set {g : Nat} {w W : World} {pre} (h : NI g w pre W) (v : Value) : NI g w pre (W.setCell ⟨g + 1 + 1 + 1 + 1, 0, none⟩ v) := by
  obtain ⟨L, nx, A, n, c, hf, b0, b1, b2, b3, hr, hb, hl, hn⟩ := h
  exact ⟨L, nx, A, n, c, hf, b0.far (show g ≠ g + 1 + 1 + 1 + 1 by omega) v, b1.far (show g + 1 ≠ g + 1 + 1 + 1 + 1 by omega) v, b2.far (show g + 1 + 1 ≠ g + 1 + 1 + 1 + 1 by omega) v, b3.far (show g + 1 + 1 + 1 ≠ g + 1 + 1 + 1 + 1 by omega) v, hr.far (fun b o e => by have := (hr.lt b o e).1; omega) v, hb.setCell (show g ≤ g + 1 + 1 + 1 + 1 by omega) v, hl, hn⟩
theorem NI.put {g : Nat} {w W : World} {pre} (h : NI g w pre W) (o : Obj) : NI g w pre (W.putObj (g + 8) o) := by
  obtain ⟨L, nx, A, n, c, hf, b0, b1, b2, b3, hr, hb, hl, hn⟩ := h
  exact ⟨L, nx, A, n, c, hf, b0.putO o (by omega), b1.putO o (by omega), b2.putO o (by omega), b3.putO o (by omega), hr.lie fun k hk => World.putObj_heap_other (by omega), below_putO hb o (by omega), hl, hn⟩
theorem NX.set {g : Nat} {w W : World} {c pre} (h : NX g w c pre W) (v : Value) : NX g w c pre (W.setCell ⟨g + 1 + 1 + 1 + 1, 0, none⟩ v) := by
  obtain ⟨hc, hf, b0, b1, hb⟩ := h
  exact ⟨hc, hf, b0.far (show g ≠ g + 1 + 1 + 1 + 1 by omega) v, b1.far (show g + 1 ≠ g + 1 + 1 + 1 + 1 by omega) v, hb.setCell (show g ≤ g + 1 + 1 + 1 + 1 by omega) v⟩
theorem NX.put {g : Nat} {w W : World} {c pre} (h : NX g w c pre W) (o : Obj) : NX g w c pre (W.putObj (g + 8) o) := by
  obtain ⟨hc, hf, b0, b1, hb⟩ := h
  exact ⟨hc, hf, b0.putO o (by omega), b1.putO o (by omega), below_putO hb o (by omega)⟩
theorem num_world {w W : World} {s : ByteArray} (hW : ((((((w.alloc (.cells #[.slice none 0 0] 34)).alloc (.cells #[.bool false] 4)).alloc (.cells #[.slice none 0 0] 34)).alloc (.cells #[.int .i64 1] 3)).alloc (.cells #[.string s] 9)).alloc (.cells #[.string ⟨#[44, 32]⟩] 9)).alloc (.cells #[.int .i64 0] 3) = W) :
    W.heap.size = w.heap.size + 7 ∧ Below w.heap.size w W ∧ Box W w.heap.size #[.slice none 0 0] 34 ∧ Box W (w.heap.size + 1) #[.bool false] 4 ∧ Box W (w.heap.size + 1 + 1) #[.slice none 0 0] 34 ∧ Box W (w.heap.size + 1 + 1 + 1) #[.int .i64 1] 3 ∧
      Box W (w.heap.size + 1 + 1 + 1 + 1) #[.string s] 9 ∧ Box W (w.heap.size + 1 + 1 + 1 + 1 + 1) #[.string ⟨#[44, 32]⟩] 9 ∧ Box W (w.heap.size + 1 + 1 + 1 + 1 + 2) #[.int .i64 0] 3 := by
  have step : ∀ (V : World) (o : Obj), (V.alloc o).heap.size = V.heap.size + 1 := fun V o => by simp
  have nb : ∀ {V : World} {g : Nat} {vs : Array Value} {t : TypeId}, V.heap.size = g → Box (V.alloc (.cells vs t)) g vs t := fun h => by subst h; exact Box.new _ _ _
  have z1 := step w (.cells #[.slice none 0 0] 34)
  have x0 := Box.new w #[.slice none 0 0] 34
  have y1 : Below w.heap.size w (w.alloc (.cells #[.slice none 0 0] 34)) := (Below.refl _ _).alloc (Nat.le_refl _) _
  generalize w.alloc _ = V1 at *
  have z2 := step V1 (.cells #[.bool false] 4)
  have x1 := nb (vs := #[.bool false]) (t := 4) z1
  have x0 := x0.alloc (.cells #[.bool false] 4)
  have y1 := y1.alloc y1.size (.cells #[.bool false] 4)
  rw [z1] at z2
  generalize V1.alloc _ = V2 at *
  have z3 := step V2 (.cells #[.slice none 0 0] 34)
  have x2 := nb (vs := #[.slice none 0 0]) (t := 34) z2
  have x0 := x0.alloc (.cells #[.slice none 0 0] 34)
  have x1 := x1.alloc (.cells #[.slice none 0 0] 34)
  have y1 := y1.alloc y1.size (.cells #[.slice none 0 0] 34)
  rw [z2] at z3
  generalize V2.alloc _ = V3 at *
  have z4 := step V3 (.cells #[.int .i64 1] 3)
  have x3 := nb (vs := #[.int .i64 1]) (t := 3) z3
  have x0 := x0.alloc (.cells #[.int .i64 1] 3)
  have x1 := x1.alloc (.cells #[.int .i64 1] 3)
  have x2 := x2.alloc (.cells #[.int .i64 1] 3)
  have y1 := y1.alloc y1.size (.cells #[.int .i64 1] 3)
  rw [z3] at z4
  generalize V3.alloc _ = V4 at *
  have z5 := step V4 (.cells #[.string s] 9)
  have x4 := nb (vs := #[.string s]) (t := 9) z4
  have x0 := x0.alloc (.cells #[.string s] 9)
  have x1 := x1.alloc (.cells #[.string s] 9)
  have x2 := x2.alloc (.cells #[.string s] 9)
  have x3 := x3.alloc (.cells #[.string s] 9)
  have y1 := y1.alloc y1.size (.cells #[.string s] 9)
  rw [z4] at z5
  generalize V4.alloc _ = V5 at *
  have z6 := step V5 (.cells #[.string ⟨#[44, 32]⟩] 9)
  have x5 := nb (vs := #[.string ⟨#[44, 32]⟩]) (t := 9) z5
  have x0 := x0.alloc (.cells #[.string ⟨#[44, 32]⟩] 9)
  have x1 := x1.alloc (.cells #[.string ⟨#[44, 32]⟩] 9)
  have x2 := x2.alloc (.cells #[.string ⟨#[44, 32]⟩] 9)
  have x3 := x3.alloc (.cells #[.string ⟨#[44, 32]⟩] 9)
  have x4 := x4.alloc (.cells #[.string ⟨#[44, 32]⟩] 9)
  have y1 := y1.alloc y1.size (.cells #[.string ⟨#[44, 32]⟩] 9)
  rw [z5] at z6
  generalize V5.alloc _ = V6 at *
  have z7 := step V6 (.cells #[.int .i64 0] 3)
  have x6 := nb (vs := #[.int .i64 0]) (t := 3) z6
  subst hW
  exact ⟨by omega, y1.alloc y1.size _, x0.alloc _, x1.alloc _, x2.alloc _, x3.alloc _, x4.alloc _, x5.alloc _, x6⟩
def intAt (b : Nat) (w : World) : Int := match w.cell? ⟨b, 0, none⟩ with
  | some (.int _ r) => r
  | _ => 0
theorem intAt_eq {w : World} {b : Nat} {r : Int} (h : w.cell? ⟨b, 0, none⟩ = some (.int .i64 r)) : intAt b w = r := by unfold intAt; rw [h]
theorem gi_add1 {x y : Int} (h : x + 1 = y) : (x + 1 : Int) = y := h
set_option maxRecDepth 100000 in
set_option maxHeartbeats 16000000 in
theorem num_y (s : ByteArray) (w : World) (hT : Lw w) (hs : s.size ≤ 1000) (hne : s.toList ≠ []) :
    Calls Tryd.prog 45 #[.string s] w (GivesU ((gfold (some ([], 1)) (splitL s.data.toList)).map (·.1)) w) := by
  have HT := hide hT
  have e0 : (s.toList == []) = false := by simpa using hne
  have e1 : s.toList.isEmpty = false := by simpa using hne
  clear hT hne
  refine (callsIn_wide (n := 5)).1 ?_
  refine callsIn_of_wp_marks Tryd.func45 rfl trivial ?_ rfl
  simp only [Tryd.ntmps45, List.size_toArray, List.length_cons, List.length_nil, Nat.reduceAdd, Nat.reduceSub, Array.replicate_succ, Array.replicate_zero, List.push_toArray, List.append_toArray, List.nil_append, List.cons_append]
  gi_wp2_with (refine ⟨trivial, ?_⟩; gi_at_call 64; refine (callsIn_wide.2 (splitseq_any s _)).mono ?_; rintro e w' ⟨rfl, rfl⟩)
  generalize hW : World.alloc (World.alloc (World.alloc (World.alloc (World.alloc (World.alloc (World.alloc w _) _) _) _) _) _) _ = W7
  obtain ⟨hz, hb7, b0, b1, b2, b3, b4, b5, b6⟩ := num_world hW
  clear hW
  have HZ := hide hz
  have hit := split_iter 4 (by decide) (w.heap.size + 1 + 1 + 1 + 1) (W7.heap.size + 1) (w.heap.size + 4) W7.heap.size (by omega) (by omega) s hs W7 b4 b5 b6
  refine range_state rfl (by decide) (gf := 94) rfl trivial (enters_of Tryd.func94 (by kernel_rfl) rfl) (fun _ => rfl) (lo := w.heap.size + 4) (by omega) (Bs := w.heap.size + 1 + 1 + 1 + 1) (by omega) hit
    (NI w.heap.size w) (NX w.heap.size w) (fun _ _ v h => h.set v) (fun _ _ _ v h => h.set v) (fun _ _ o h => by rw [hz]; exact h.put o) (fun _ _ _ o h => by rw [hz]; exact h.put o)
    (fun _ A h => by obtain ⟨_, _, _, _, _, _, _, _, _, _, _, hb, _⟩ := h; exact (HT.out.below hb).big) ?h0
    (fun x => { tmps := #[.string s, undef, .pointer (some ⟨w.heap.size, 0, none⟩), .pointer (some ⟨w.heap.size + 1, 0, none⟩), .pointer (some ⟨w.heap.size + 1 + 1, 0, none⟩), .pointer (some ⟨w.heap.size + 1 + 1 + 1, 0, none⟩), .string x.1, undef, undef, undef, .string s, .bool false, .string s, .func (.func 94) #[] #[.pointer (some ⟨w.heap.size + 1 + 1 + 1 + 1 + 1, 0, none⟩), .pointer (some ⟨w.heap.size + 1 + 1 + 1 + 1, 0, none⟩), .pointer (some ⟨w.heap.size + 1 + 1 + 1 + 1 + 2, 0, none⟩)], .string x.1, undef, undef, undef, undef, undef, undef, undef, undef, undef, undef, undef, undef, undef, undef, undef, undef, undef, undef, undef, undef, undef, undef, undef, undef, undef, undef, undef, undef, undef, undef, undef, undef, undef], defers := [] }) ?assign ?body ?done ?stop
  case h0 =>
    intro o o'
    exact ⟨[], 1, none, 0, 0, rfl, (b0.alloc o).alloc o', (b1.alloc o).alloc o', (b2.alloc o).alloc o', (b3.alloc o).alloc o', IR.nil_, (hb7.alloc hb7.size o).alloc (by have := hb7.size; simp; omega) o', by simp, by omega⟩
  case assign =>
    intro x A K hK
    simp only [encP]
    gi_wp2
    exact hK
  case body =>
    clear hit hb7 b0 b1 b2 b3 b4 b5 b6
    rintro pre x A ⟨L, nx, As, n, c, hf, b0, b1, b2, b3, hr, hb, hl, hnx⟩ hlt hN
    have HGS := hide (show gfold (some ([], 1)) (lst (pre ++ [x])) = gstep (L, nx) x.1.data.toList from by
      unfold lst at hf ⊢
      rw [List.map_append]
      exact gfold_snoc _ _ _ _ hf)
    have hLn := hr.len
    have HLn := hide hLn
    have hn : n ≤ 1000 := by omega
    rw [hz]
    have hszA : w.heap.size + 9 ≤ A.heap.size := by omega
    clear hf hlt hN hLn hz
    gi_wp2_with fail
    refine ⟨trivial, ?_⟩
    refine (CallsIn.inRound (w.heap.size + 7 + 1) (callsIn_wide.2 (ends_any x.1 x.2 _ (HT.out.below hb)))).mono ?_
    rintro e w1 ⟨⟨p, q, ok, rfl, hok⟩, hbe⟩
    have HL := hide (show Lie (w.heap.size + 4) (w.heap.size + 7 + 2) A w1 from Lie.of_below (hbe.mono hszA))
    replace b0 := b0.below' hbe
    replace b1 := b1.below' hbe
    replace b2 := b2.below' hbe
    replace b3 := b3.below' hbe
    replace hr := hr.below hbe
    replace hb := hb.trans (hbe.mono (by omega))
    have hsz1 := Nat.le_trans hszA hbe.size
    clear hbe hszA
    have c0 := b0.cell
    have c1 := b1.cell
    have c2 := b2.cell
    have c3 := b3.cell
    have f0 := b0.frozen 0
    have f1 := b1.frozen 0
    have f2 := b2.frozen 0
    have f3 := b3.frozen 0
    rcases hok with ⟨rfl, hok⟩ | ⟨rfl, hok⟩
    · by_cases k1 : p < (nx : Int)
      · have d1 : decide (p < (nx : Int)) = true := decide_eq_true k1
        have HST := hide (show gstep (L, nx) x.1.data.toList = none from by unfold gstep; rw [hok]; simp only []; rw [if_neg (by omega)])
        clear hok
        have HQ := hide (show gfold (some ([], 1)) (lst (pre ++ [x])) = none from HGS.out.trans HST.out)
        gi_wp2
        exact ⟨HL.out.trans ((Lie.set _ (by omega)).trans (Lie.set _ (by omega))), rfl, HQ.out, (b0.put _).far (by show w.heap.size ≠ w.heap.size + 1; omega) _, (b1.far (by show w.heap.size + 1 ≠ w.heap.size; omega) _).put _, (hb.setCell (by exact Nat.le_refl _) _).setCell (by show w.heap.size ≤ w.heap.size + 1; omega) _⟩
      · have d1 : decide (p < (nx : Int)) = false := decide_eq_false k1
        by_cases k2 : q < p
        · have d2 : decide (q < p) = true := decide_eq_true k2
          have HST := hide (show gstep (L, nx) x.1.data.toList = none from by unfold gstep; rw [hok]; simp only []; rw [if_neg (by omega)])
          clear hok
          have HQ := hide (show gfold (some ([], 1)) (lst (pre ++ [x])) = none from HGS.out.trans HST.out)
          gi_wp2
          exact ⟨HL.out.trans ((Lie.set _ (by omega)).trans (Lie.set _ (by omega))), rfl, HQ.out, (b0.put _).far (by show w.heap.size ≠ w.heap.size + 1; omega) _, (b1.far (by show w.heap.size + 1 ≠ w.heap.size; omega) _).put _, (hb.setCell (by exact Nat.le_refl _) _).setCell (by show w.heap.size ≤ w.heap.size + 1; omega) _⟩
        · have d2 : decide (q < p) = false := decide_eq_false k2
          by_cases k3 : 999 < q
          · have d3 : decide (999 < q) = true := decide_eq_true k3
            have HST := hide (show gstep (L, nx) x.1.data.toList = none from by unfold gstep; rw [hok]; simp only []; rw [if_neg (by omega)])
            clear hok
            have HQ := hide (show gfold (some ([], 1)) (lst (pre ++ [x])) = none from HGS.out.trans HST.out)
            gi_wp2
            exact ⟨HL.out.trans ((Lie.set _ (by omega)).trans (Lie.set _ (by omega))), rfl, HQ.out, (b0.put _).far (by show w.heap.size ≠ w.heap.size + 1; omega) _, (b1.far (by show w.heap.size + 1 ≠ w.heap.size; omega) _).put _, (hb.setCell (by exact Nat.le_refl _) _).setCell (by show w.heap.size ≤ w.heap.size + 1; omega) _⟩
          · have d3 : decide (999 < q) = false := decide_eq_false k3
            obtain ⟨a, rfl⟩ : ∃ a : Nat, p = (a : Int) := ⟨p.toNat, by omega⟩
            obtain ⟨b, rfl⟩ : ∃ b : Nat, q = (b : Int) := ⟨q.toNat, by omega⟩
            have HST := hide (show gstep (L, nx) x.1.data.toList = some (L ++ uptoL a (b + 1 - a), b + 1) from by unfold gstep; rw [hok]; simp only []; rw [if_pos (by omega), Int.toNat_natCast, Int.toNat_natCast])
            have hab : a ≤ b := by omega
            have hb9 : b ≤ 999 := by omega
            have p1 : nx ≤ a := by omega
            have d1' : decide (a < nx) = false := decide_eq_false (by omega)
            have d2' : decide (b < a) = false := decide_eq_false (by omega)
            have p2 : ¬ b < a := by omega
            have ha1 : n + 1 ≤ a := by have := HLn.out; omega
            clear hok k1 k2 k3
            gi_wp2
            gi_loopw [] (fun wr => ∃ (k m : Nat) (As : Option Addr) (c : Nat), k ≤ b + 1 - a ∧ m = n + k ∧ Box wr w.heap.size #[.slice none 0 0] 34 ∧ Box wr (w.heap.size + 1) #[.bool false] 4 ∧ Box wr (w.heap.size + 1 + 1) #[.slice As m c] 34 ∧ Box wr (w.heap.size + 1 + 1 + 1) #[.int .i64 ((a + k : Nat) : Int)] 3 ∧ IR wr (w.heap.size + 9) As m c (L ++ uptoL a k) ∧ Below w.heap.size w wr ∧ Hid (Lie (w.heap.size + 4) (w.heap.size + 7 + 2) A wr) ∧ w.heap.size + 9 ≤ wr.heap.size) (fun wr => ((b : Int) + 1 - intAt (w.heap.size + 1 + 1 + 1) wr).toNat)
            case atStart =>
              refine ⟨0, n, As, c, by omega, rfl, b0.far (show w.heap.size ≠ w.heap.size + 1 + 1 + 1 by omega) _, b1.far (show w.heap.size + 1 ≠ w.heap.size + 1 + 1 + 1 by omega) _, b2.far (show w.heap.size + 1 + 1 ≠ w.heap.size + 1 + 1 + 1 by omega) _, b3.put _, ?_, hb.setCell (show w.heap.size ≤ w.heap.size + 1 + 1 + 1 by omega) _, hide (HL.out.trans (Lie.set _ (by omega))), by simpa using hsz1⟩
              unfold uptoL
              rw [List.append_nil]
              exact hr.far (fun b o e => by have := (hr.lt b o e).1; omega) _
            case round =>
              clear c0 c1 c2 c3 f0 f1 f2 f3 b0 b1 b2 b3 hr hb HL hsz1
              obtain ⟨k, m, As, c, hk, rfl, b0, b1, b2, b3, hr, hb, HL, hsz⟩ := hrel
              have c2 := b2.cell
              have c3 := b3.cell
              have f2 := b2.frozen 0
              have f3 := b3.frozen 0
              have HIA := hide (intAt_eq c3)
              by_cases hle : a + k ≤ b
              · have d4 : decide (((a + k : Nat) : Int) ≤ (b : Int)) = true := decide_eq_true (by omega)
                have d5 : decide (a + k ≤ b) = true := decide_eq_true hle
                have k9 : ((a + k : Nat) : Int) ≤ 1000 := by omega
                have hsz8 : w.heap.size + 9 ≤ (wr.alloc (.cells #[.int .i64 ((a + k : Nat) : Int)] 3)).heap.size := by simp; omega
                have F : Below wr.heap.size wr (wr.alloc (.cells #[.int .i64 ((a + k : Nat) : Int)] 3)) := (Below.refl _ _).alloc (Nat.le_refl _) _
                have HIR := hide (hr.below F)
                gi_wp2_with (gi_at_builtin; refine wpListIn_append_ir rfl _ _ 34 rfl 8 Tryd.underlying34 int_info (w.heap.size + 9) As (n + k) c _ rfl HIR.out wr.heap.size 0 1 (a + k) rfl (Box.new wr #[.int .i64 ((a + k : Nat) : Int)] 3).cell (by omega) (n + k + 1) rfl (by omega) hsz8 ?_; intro A9 c9 w9 hr9 hG9; have g0 := (b0.below' F).below hG9.1 (by omega); have g1 := (b1.below' F).below hG9.1 (by omega); have g2 := (b2.below' F).below hG9.1 (by omega); have g3 := (b3.below' F).below hG9.1 (by omega); have c29 := g2.cell; have f29 := g2.frozen 0; have c39 := g3.cell; have f39 := g3.frozen 0)
                have hs9 : w.heap.size + 9 ≤ w9.heap.size := Nat.le_trans hsz8 hG9.2.1
                have hL9 : Lie (w.heap.size + 4) (w.heap.size + 7 + 2) A w9 := (HL.out.trans (Lie.of_below (F.mono hsz))).trans (Lie.of_below hG9.1)
                have hb9' := (hb.trans (F.mono hb.size)).trans (hG9.1.mono (by omega))
                have ee : ((a : Int) + (k : Int) + 1) = ((a + (k + 1) : Nat) : Int) := by omega
                have HE := hide ee
                clear ee
                go_roundw
                case rel =>
                  refine ⟨k + 1, n + k + 1, A9, c9, by omega, by omega, (g0.far (show w.heap.size ≠ w.heap.size + 1 + 1 by omega) _).far (show w.heap.size ≠ w.heap.size + 1 + 1 + 1 by omega) _, (g1.far (show w.heap.size + 1 ≠ w.heap.size + 1 + 1 by omega) _).far (show w.heap.size + 1 ≠ w.heap.size + 1 + 1 + 1 by omega) _, (g2.put _).far (show w.heap.size + 1 + 1 ≠ w.heap.size + 1 + 1 + 1 by omega) _, ?_, ?_, (hb9'.setCell (show w.heap.size ≤ w.heap.size + 1 + 1 by omega) _).setCell (show w.heap.size ≤ w.heap.size + 1 + 1 + 1 by omega) _, hide ((hL9.trans (Lie.set _ (by omega))).trans (Lie.set _ (by omega))), by simpa using hs9⟩
                  · rw [← HE.out]
                    exact (g3.far (show w.heap.size + 1 + 1 + 1 ≠ w.heap.size + 1 + 1 by omega) _).put _
                  · have h9 := (hr9.far (k := w.heap.size + 1 + 1) (i := 0) (fun b o e => by have := (hr9.lt b o e).1; omega) (.slice A9 (n + k + 1) c9)).far (k := w.heap.size + 1 + 1 + 1) (i := 0) (fun b o e => by have := (hr9.lt b o e).1; omega) (.int .i64 ((a : Int) + (k : Int) + 1))
                    rw [List.append_assoc] at h9
                    exact h9
                case measure =>
                  rw [intAt_eq ((g3.far (show w.heap.size + 1 + 1 + 1 ≠ w.heap.size + 1 + 1 by omega) _).put _).cell, HIA.out]
                  omega
              · obtain rfl : k = b + 1 - a := by omega
                have d4 : decide (((a + (b + 1 - a) : Nat) : Int) ≤ (b : Int)) = false := decide_eq_false (by omega)
                have d5 : decide (a + (b + 1 - a) ≤ b) = false := decide_eq_false (by omega)
                have d6 : ¬ a + (b + 1 - a) ≤ b := by omega
                have hlen : (L ++ uptoL a (b + 1 - a)).length + 1 ≤ b + 1 := by rw [List.length_append, uptoL_len, HLn.out]; omega
                have h3 : Box wr (w.heap.size + 1 + 1 + 1) #[.int .i64 ((b + 1 : Nat) : Int)] 3 := by
                  rw [show b + 1 = a + (b + 1 - a) by omega]; exact b3
                gi_wp2
                exact ⟨HL.out, _, b + 1, As, _, c, HGS.out.trans HST.out, b0, b1, b2, h3, hr, hb, hlen, by omega⟩
    · have HST := hide (show gstep (L, nx) x.1.data.toList = none from by unfold gstep; rw [hok])
      clear hok
      have HQ := hide (show gfold (some ([], 1)) (lst (pre ++ [x])) = none from HGS.out.trans HST.out)
      gi_wp2
      exact ⟨HL.out.trans ((Lie.set _ (by omega)).trans (Lie.set _ (by omega))), rfl, HQ.out, (b0.put _).far (by show w.heap.size ≠ w.heap.size + 1; omega) _, (b1.far (by show w.heap.size + 1 ≠ w.heap.size; omega) _).put _, (hb.setCell (by exact Nat.le_refl _) _).setCell (by show w.heap.size ≤ w.heap.size + 1; omega) _⟩
  case done =>
    rintro xs A hS ⟨L, nx, As, n, c, hf, b0, b1, b2, b3, hr, hb, hl, hnx⟩ hK
    clear hit hb7 b4 b5 b6
    have c0 := b0.cell
    have c1 := b1.cell
    have c2 := b2.cell
    have f0 := b0.frozen 0
    have f1 := b1.frozen 0
    have HF := hide (show (gfold (some ([], 1)) (splitL s.data.toList)).map (·.1) = some L from by rw [← hS, hf]; rfl)
    have hLn := hr.len
    subst hLn
    clear hf
    gi_wp2
    refine ⟨by simp, .inl ⟨_, _, rfl, run_takeDeferred ((Below.heap_setCell _ _ _ _ (by show W7.heap.size ≠ w.heap.size + 1; omega)).trans ((Below.heap_setCell _ _ _ _ (by show W7.heap.size ≠ w.heap.size; omega)).trans hK)), ?_⟩⟩
    have r0 := ((b0.put (.slice As L.length c)).far (p := ⟨w.heap.size + 1, 0, none⟩) (show w.heap.size ≠ w.heap.size + 1 by omega) (.bool true)).putO (l := W7.heap.size) (.deferred none) (by omega)
    have r1 := ((b1.far (p := ⟨w.heap.size, 0, none⟩) (show w.heap.size + 1 ≠ w.heap.size by omega) (.slice As L.length c)).put (.bool true)).putO (l := W7.heap.size) (.deferred none) (by omega)
    have rb := below_putO ((hb.setCell (p := ⟨w.heap.size, 0, none⟩) (Nat.le_refl _) (.slice As L.length c)).setCell (p := ⟨w.heap.size + 1, 0, none⟩) (Nat.le_succ _) (.bool true)) (.deferred none) (l := W7.heap.size) (by omega)
    have rr : IR (((A.setCell ⟨w.heap.size, 0, none⟩ (.slice As L.length c)).setCell ⟨w.heap.size + 1, 0, none⟩ (.bool true)).putObj W7.heap.size (.deferred none)) (w.heap.size + 9) As L.length c L := ((hr.far (fun b o e => by have := (hr.lt b o e).1; omega) _).far (fun b o e => by have := (hr.lt b o e).1; omega) _).lie fun k hk => World.putObj_heap_other (by omega)
    generalize World.putObj _ _ _ = V at *
    have q0 := r0.cell
    have q1 := r1.cell
    refine ⟨.tuple #[.slice As L.length c, .bool true], by simp [results, Tryd.results45, go_sem, q0, q1], ⟨As, c, L, true, rfl, rr.rl, rr.le.1, rr.le.2, .inl ⟨HF.out, rfl⟩⟩, rb⟩
  case stop =>
    rintro c pre A ⟨rest, hrest⟩ ⟨rfl, hf, b0, b1, hb⟩ hK
    clear hit hb7 b2 b3 b4 b5 b6
    have HF := hide (show (gfold (some ([], 1)) (splitL s.data.toList)).map (·.1) = none from by rw [← hrest, gfold_app, hf, gfold_none]; rfl)
    have c0 := b0.cell
    have c1 := b1.cell
    gi_wp2
    refine ⟨by simp, .inl ⟨_, _, rfl, run_takeDeferred hK, ?_⟩⟩
    have r0 := b0.putO (l := W7.heap.size) (.deferred none) (by omega)
    have r1 := b1.putO (l := W7.heap.size) (.deferred none) (by omega)
    have rb := below_putO hb (.deferred none) (l := W7.heap.size) (by omega)
    generalize World.putObj _ _ _ = V at *
    have q0 := r0.cell
    have q1 := r1.cell
    refine ⟨.tuple #[.slice none 0 0, .bool false], by simp [results, Tryd.results45, go_sem, q0, q1], ⟨none, 0, [], false, rfl, RL.nil_, Nat.le_refl _, by simp [maxLen], .inr ⟨HF.out, rfl, rfl⟩⟩, rb⟩
end Go.Proofs.YtdoknlodnpeeoaaDoor
