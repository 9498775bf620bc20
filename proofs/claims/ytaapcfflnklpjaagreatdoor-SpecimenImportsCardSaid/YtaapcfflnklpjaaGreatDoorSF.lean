/- specimen.Parse. -/
import Derived.Test.YtaapcfflnklpjaaGreatDoorSC
import Derived.Test.YtaapcfflnklpjaaGreatDoorShelf7
import Derived.Test.YtaapcfflnklpjaaGreatDoorLRPar
namespace Go.Proofs.YtaapcfflnklpjaaGreatDoor
open Go Go.RowKit Go.Lib
/-- the pieces are no longer than the whole -/
theorem splitB_size (sep : ByteArray) : ∀ (k : Nat) (s : ByteArray) (p : ByteArray), p ∈ Lib.splitB sep 0 k s → p.size ≤ s.size
  | 0, s, p, h => by
    rw [Lib.splitB_zero] at h
    simp at h
    subst h
    exact Nat.le_refl _
  | k + 1, s, p, h => by
    unfold Lib.splitB at h
    split at h
    · simp at h
      subst h
      exact Nat.le_refl _
    · rcases List.mem_cons.1 h with h | h
      · subst h
        rw [ByteArray.size_extract]
        omega
      · have := splitB_size sep k _ p h
        rw [ByteArray.size_extract] at this
        omega
/-- the parts of a text -/
def partsB (s : ByteArray) : List ByteArray := Lib.splitB ⟨#[32]⟩ 0 (min 4 (s.size + 1) - 1) s
theorem partsB_len (s : ByteArray) : (partsB s).length ≤ 4 := by
  have := Lib.splitB_length_le ⟨#[32]⟩ 0 (min 4 (s.size + 1) - 1) s
  unfold partsB
  omega
theorem partsB_four {s p0 p1 p2 p3 : ByteArray} (h : partsB s = [p0, p1, p2, p3]) : min 4 (s.size + 1) = 4 := by
  have := Lib.splitB_length_le ⟨#[32]⟩ 0 (min 4 (s.size + 1) - 1) s
  unfold partsB at h
  rw [h] at this
  simp at this
  omega
theorem partsB_of {s : ByteArray} {y : Spc} (h : IsSp s.data.toList y) : (partsB s).map (·.data.toList) = Lib.splitK [32] 0 3 s.data.toList := by
  have h3 : 3 ≤ s.size := by
    have := (spL_len h.1).2
    rw [h.2, ← Lib.size_eq] at this
    exact this
  unfold partsB
  rw [Lib.splitB_data, show min 4 (s.size + 1) - 1 = 3 by omega]
/-- what the parts of a specimen's text say -/
theorem parts_say {s p0 p1 p2 p3 : ByteArray} (h : partsB s = [p0, p1, p2, p3]) {y : Spc} (hy : IsSp s.data.toList y) : endL p0.data.toList = some y.i ∧ ppR p1.data.toList = ((0, y.o, y.a), (1, y.r, y.b), 0) ∧
    (∃ h : Int, endL (Lib.trimSuffix p2.data.toList [104]) = some h ∧ h.tmod 12 = y.h) ∧ endL (Lib.replace p3.data.toList [46] [] 1) = some y.m := by
  obtain ⟨a, b, c, d, e1, _, e2, e3, e4, e5, _⟩ := hy.parts
  have := partsB_of hy
  rw [h, e1] at this
  simp at this
  obtain ⟨rfl, rfl, rfl, rfl⟩ := this
  exact ⟨e2, e3, e4, e5⟩
theorem parts_no {s : ByteArray} (h : (partsB s).length < 4) : ∀ y, ¬IsSp s.data.toList y := by
  intro y hy
  obtain ⟨a, b, c, d, e1, _⟩ := hy.parts
  have := congrArg List.length (partsB_of hy)
  rw [e1] at this
  simp at this
  omega
theorem splitn_any (s : ByteArray) (hs : s.size ≤ 5000) (w : World) (hT : Lw w) :
    Calls Tryz.prog 48 #[.string s, .string ⟨#[32]⟩, .int .i64 4] w fun e w' => e = .returned (.slice (some ⟨w.heap.size, 0, none⟩) (partsB s).length (min 4 (s.size + 1))) ∧ w' = w.alloc (.cells (Lib.cellsOf (partsB s) (min 4 (s.size + 1))) 9) := by
  obtain ⟨m, hm⟩ := hT.big
  exact Tryz.strings_SplitN s ⟨#[32]⟩ 4 m w (by omega) hm (by decide) (by decide) (by decide)
theorem splitn_4 (s : ByteArray) (hs : s.size ≤ 5000) (w : World) (hT : Lw w) (p0 p1 p2 p3 : ByteArray) (h : partsB s = [p0, p1, p2, p3]) :
    Calls Tryz.prog 48 #[.string s, .string ⟨#[32]⟩, .int .i64 4] w fun e w' => e = .returned (.slice (some ⟨w.heap.size, 0, none⟩) 4 4) ∧ w' = w.alloc (.cells #[.string p0, .string p1, .string p2, .string p3] 9) := by
  refine (splitn_any s hs w hT).mono ?_
  rintro e w' ⟨rfl, rfl⟩
  rw [partsB_four h, h]
  exact ⟨rfl, rfl⟩
theorem splitn_f (s : ByteArray) (hs : s.size ≤ 5000) (w : World) (hT : Lw w) (n : Nat) (h : (partsB s).length = n) :
    Calls Tryz.prog 48 #[.string s, .string ⟨#[32]⟩, .int .i64 4] w fun e w' => ∃ c, e = .returned (.slice (some ⟨w.heap.size, 0, none⟩) n c) ∧ Below w.heap.size w w' := by
  refine (splitn_any s hs w hT).mono ?_
  rintro e w' ⟨rfl, rfl⟩
  rw [h]
  exact ⟨_, rfl, (Below.refl _ _).alloc (Nat.le_refl _) _⟩
theorem trims_any (s p : ByteArray) (hs : s.size ≤ 5000) (w : World) (S : ByteArray) (hS : strB (Lib.trimSuffix s.data.toList p.data.toList) = S) :
    Calls Tryz.prog 51 #[.string s, .string p] w fun e w' => e = .returned (.string S) ∧ w' = w := by
  refine (Tryz.strings_TrimSuffix s p w (by omega)).mono ?_
  rintro e w' ⟨rfl, rfl⟩
  exact ⟨by rw [← hS]; rfl, rfl⟩
theorem countB_one (s : ByteArray) (c : UInt8) : Lib.countB s ⟨#[c]⟩ ≤ s.size := Lib.countB_le _ (by show 1 ≤ 1; omega) s.size s (Nat.le_refl _)
theorem repl_any (s : ByteArray) (hs : s.size ≤ 5000) (w : World) (hT : Lw w) (S : ByteArray) (hS : strB (Lib.replace s.data.toList [46] [] 1) = S) :
    Calls Tryz.prog 52 #[.string s, .string ⟨#[46]⟩, .string ⟨#[]⟩, .int .i64 1] w fun e w' => e = .returned (.string S) ∧ Below w.heap.size w w' := by
  obtain ⟨m, hm⟩ := hT.big
  refine (Tryz.strings_Replace s ⟨#[46]⟩ ⟨#[]⟩ 1 m w (by omega) hm (by decide) (by rw [show (⟨#[]⟩ : ByteArray).size = 0 from rfl]; omega)).mono ?_
  rintro e w' ⟨rfl, h⟩
  exact ⟨by rw [← hS]; rfl, h⟩
theorem replaceK_len (o : List UInt8) : ∀ (k : Nat) (l : List UInt8), (Lib.replaceK o [] k l).length ≤ l.length
  | 0, l => Nat.le_refl _
  | k + 1, l => by
    unfold Lib.replaceK
    split
    · exact Nat.le_refl _
    · have := replaceK_len o k (l.drop ((Lib.index l o).toNat + o.length))
      rw [List.length_drop] at this
      simp only [List.length_append, List.length_take, List.length_nil]
      omega
theorem replace_len (l : List UInt8) : (Lib.replace l [46] [] 1).length ≤ l.length := by
  unfold Lib.replace
  split
  · exact Nat.le_refl _
  · exact replaceK_len _ _ _
theorem trims_len (l p : List UInt8) : (Lib.trimSuffix l p).length ≤ l.length := by
  unfold Lib.trimSuffix
  split
  · rw [List.length_take]; omega
  · exact Nat.le_refl _
theorem ppR_er (l : List UInt8) : (ppR l).2.2 = 0 ∨ ppR l = ((0, 0, 0), (0, 0, 0), 3) := by
  unfold ppR
  split
  · exact .inl rfl
  · exact .inr rfl
theorem pr_no {l : List UInt8} {X : Spc} {er : Int} (hp : PR l X er) (h : ∀ y, ¬IsSp l y) : X = Spc.zero ∧ er = 3 := by
  rcases hp with ⟨_, h1⟩ | ⟨h1, h2, _⟩
  · exact absurd h1 (h X)
  · exact ⟨h2, h1⟩
def zero7 : Array Value := #[.int .i64 0, .int .i64 0, .int .i64 0, .int .i64 0, .int .i64 0, .int .i64 0, .int .i64 0]
theorem set7 {B : Nat} {w W : World} {g : Nat} (h : Below B w W) (hg : B ≤ g) (a b c d e f i : Value) : Below B w (((((((W.setCell ⟨g, 0, none⟩ a).setCell ⟨g, 1, none⟩ b).setCell ⟨g, 2, none⟩ c).setCell ⟨g, 3, none⟩ d).setCell ⟨g, 4, none⟩ e).setCell ⟨g, 5, none⟩ f).setCell ⟨g, 6, none⟩ i) :=
  ((((((h.setCell hg _).setCell hg _).setCell hg _).setCell hg _).setCell hg _).setCell hg _).setCell hg _
set_option maxHeartbeats 4000000 in
set_option maxRecDepth 100000 in
theorem parse9_f (s : ByteArray) (w : World) (hT : Lw w) (hs : s.size ≤ 5000) (h : (partsB s).length < 4) :
    Calls Tryz.prog 17 #[.string s] w fun e w' => e = .returned (.tuple #[.agg #[.int .i64 0, .int .i64 0, .int .i64 0, .int .i64 0, .int .i64 0, .int .i64 0, .int .i64 0], .int .i64 3]) ∧ Below w.heap.size w w' := by
  have HT := hide hT
  obtain ⟨n, hn⟩ : ∃ n, (partsB s).length = n := ⟨_, rfl⟩
  rw [hn] at h
  have HN := hide hn
  have d0 : decide ((n : Int) < 4) = true := decide_eq_true (by omega)
  clear hT hn
  go_enter Tryz.func17, Tryz.ntmps17
  go_wp2_with fail
  generalize hW : w.alloc _ = W
  obtain ⟨B, b2, -⟩ := boxC hW
  clear hW
  refine (splitn_f s hs _ (HT.out.below B) n HN.out).mono ?_
  rintro e w1 ⟨c, rfl, hb⟩
  replace b2 := b2.below' hb
  have B := nxt B hb
  have y0 := b2.at_ 0
  have y1 := b2.at_ 1
  have y2 := b2.at_ 2
  have y3 := b2.at_ 3
  have y4 := b2.at_ 4
  have y5 := b2.at_ 5
  have y6 := b2.at_ 6
  have f0 := b2.frozen 0
  have f1 := b2.frozen 1
  have f2 := b2.frozen 2
  have f3 := b2.frozen 3
  have f4 := b2.frozen 4
  have f5 := b2.frozen 5
  have f6 := b2.frozen 6
  have l2 := b2.lt
  simp at y0 y1 y2 y3 y4 y5 y6
  clear hb b2
  go_wp2_with fail
  refine bodyPost_ret (v := .tuple #[.agg #[.int .i64 0, .int .i64 0, .int .i64 0, .int .i64 0, .int .i64 0, .int .i64 0, .int .i64 0], .int .i64 3]) (by simp [results, Tryz.results17, go_sem, *]) rfl ?_
  exact ⟨rfl, set7 B (Nat.le_refl _) _ _ _ _ _ _ _⟩
set_option maxHeartbeats 16000000 in
set_option maxRecDepth 100000 in
theorem parse9_4 (s : ByteArray) (w : World) (hT : Lw w) (hs : s.size ≤ 5000) (p0 p1 p2 p3 : ByteArray) (h : partsB s = [p0, p1, p2, p3]) (X : Spc) (er : Int) (hp : PR s.data.toList X er) :
    Calls Tryz.prog 17 #[.string s] w fun e w' => e = .returned (.tuple #[.agg #[.int .i64 X.i, .int .i64 X.o, .int .i64 X.r, .int .i64 X.a, .int .i64 X.b, .int .i64 X.h, .int .i64 X.m], .int .i64 er]) ∧ Below w.heap.size w w' := by
  have HT := hide hT
  have hsz := splitB_size ⟨#[32]⟩ (min 4 (s.size + 1) - 1) s
  have Z0 : p0.size ≤ s.size := hsz p0 (by show p0 ∈ partsB s; rw [h]; simp)
  have Z1 : p1.size ≤ s.size := hsz p1 (by show p1 ∈ partsB s; rw [h]; simp)
  have Z2 : p2.size ≤ s.size := hsz p2 (by show p2 ∈ partsB s; rw [h]; simp)
  have Z3 : p3.size ≤ s.size := hsz p3 (by show p3 ∈ partsB s; rw [h]; simp)
  obtain ⟨S2, hS2⟩ : ∃ S, strB (Lib.trimSuffix p2.data.toList [104]) = S := ⟨_, rfl⟩
  obtain ⟨S3, hS3⟩ : ∃ S, strB (Lib.replace p3.data.toList [46] [] 1) = S := ⟨_, rfl⟩
  have Z4 : S2.size ≤ s.size := by
    rw [← hS2, strB_size]
    have := trims_len p2.data.toList [104]
    rw [← Lib.size_eq] at this
    omega
  have Z5 : S3.size ≤ s.size := by
    rw [← hS3, strB_size]
    have := replace_len p3.data.toList
    rw [← Lib.size_eq] at this
    omega
  have HZ := hide (And.intro hs (And.intro Z0 (And.intro Z1 (And.intro Z2 (And.intro Z3 (And.intro Z4 Z5))))))
  obtain ⟨a, b, c, x, y, z, er2, hpp⟩ : ∃ a b c x y z er2, ppR p1.data.toList = ((a, b, c), (x, y, z), er2) := ⟨_, _, _, _, _, _, _, rfl⟩
  have HPP := hide hpp
  have HER := hide (show er2 = 0 ∨ (a = 0 ∧ b = 0 ∧ c = 0 ∧ x = 0 ∧ y = 0 ∧ z = 0 ∧ er2 = 3) by
    rcases ppR_er p1.data.toList with h | h
    · rw [hpp] at h; exact .inl h
    · rw [hpp] at h; injection h with h1 h2; injection h1 with h3 h4; injection h4 with h5 h6; injection h2 with h7 h8; injection h7 with h9 h10; injection h10 with h11 h12; exact .inr ⟨h3, h5, h6, h9, h11, h12, h8⟩)
  have HSAY := hide (fun (Y : Spc) (hY : IsSp s.data.toList Y) => parts_say h hY)
  have HP := hide hp
  have HH := hide h
  have HS2 := hide hS2
  have HS3 := hide hS3
  clear hT hsz Z0 Z1 Z2 Z3 Z4 Z5 hpp h hp hS2 hS3 hs
  go_enter Tryz.func17, Tryz.ntmps17
  go_wp2_with fail
  generalize hW : w.alloc _ = W
  obtain ⟨B, b2, -⟩ := boxC hW
  clear hW
  refine (splitn_4 s HZ.out.1 _ (HT.out.below B) p0 p1 p2 p3 HH.out).mono ?_
  rintro e w1 ⟨rfl, rfl⟩
  have bp := Box.new W #[.string p0, .string p1, .string p2, .string p3] 9
  replace b2 := b2.alloc (.cells #[.string p0, .string p1, .string p2, .string p3] 9)
  replace B := nxt B ((Below.refl _ _).alloc (Nat.le_refl _) (.cells #[.string p0, .string p1, .string p2, .string p3] 9))
  obtain ⟨gp, hgp⟩ : ∃ g, W.heap.size = g := ⟨_, rfl⟩
  rw [hgp] at bp
  have c0 := bp.at_ 0
  simp at c0
  go_wp2_with fail
  generalize W.alloc _ = W1 at *
  have lb2 := b2.lt
  have lbp := bp.lt
  clear c0 hgp
  refine (atoi_any p0 (by have := HZ.out; omega) _ (HT.out.below B)).mono ?_
  rintro e w1 ⟨⟨n1, v1, rfl, hx1⟩, hb⟩
  have HX1 := hide hx1
  replace b2 := b2.below' hb
  replace bp := bp.below' hb
  replace B := nxt B hb
  clear hx1 hb lb2 lbp
  have c1 := bp.at_ 1
  simp at c1
  have lbp := bp.lt
  go_wp2_with fail
  clear c1
  refine (ppair_any p1 _ (HT.out.below B) (by have := HZ.out; omega) a b c x y z er2 HPP.out).mono ?_
  rintro e w2 ⟨rfl, hb⟩
  replace b2 := b2.below' hb
  replace bp := bp.below' hb
  replace B := nxt B hb
  clear hb lbp
  have c2 := ((bp.alloc (.cells #[.int .i64 a, .int .i64 b, .int .i64 c] 55)).alloc (.cells #[.int .i64 x, .int .i64 y, .int .i64 z] 55)).at_ 2
  simp at c2
  have lbp := bp.lt
  go_wp2_with fail
  clear c2
  have q2 := (b2.alloc (.cells #[.int .i64 a, .int .i64 b, .int .i64 c] 55)).alloc (.cells #[.int .i64 x, .int .i64 y, .int .i64 z] 55)
  have qp := (bp.alloc (.cells #[.int .i64 a, .int .i64 b, .int .i64 c] 55)).alloc (.cells #[.int .i64 x, .int .i64 y, .int .i64 z] 55)
  have qa := (Box.new w2 #[.int .i64 a, .int .i64 b, .int .i64 c] 55).alloc (.cells #[.int .i64 x, .int .i64 y, .int .i64 z] 55)
  have qb := Box.new (w2.alloc (.cells #[.int .i64 a, .int .i64 b, .int .i64 c] 55)) #[.int .i64 x, .int .i64 y, .int .i64 z] 55
  rw [World.size_alloc] at qb
  have q : Below w.heap.size w ((w2.alloc (.cells #[.int .i64 a, .int .i64 b, .int .i64 c] 55)).alloc (.cells #[.int .i64 x, .int .i64 y, .int .i64 z] 55)) := (B.alloc B.size _).alloc (by have := B.size; simp; omega) _
  generalize (w2.alloc (.cells #[.int .i64 a, .int .i64 b, .int .i64 c] 55)).alloc (.cells #[.int .i64 x, .int .i64 y, .int .i64 z] 55) = W3 at *
  clear b2 bp B lbp
  refine (trims_any p2 ⟨#[104]⟩ (by have := HZ.out; omega) _ S2 HS2.out).mono ?_
  rintro e w3 ⟨rfl, rfl⟩
  go_wp2_with fail
  refine (atoi_any S2 (by have := HZ.out; omega) _ (HT.out.below q)).mono ?_
  rintro e w4 ⟨⟨n3, v3, rfl, hx3⟩, hb⟩
  have HX3 := hide hx3
  replace q2 := q2.below' hb
  replace qp := qp.below' hb
  replace qa := qa.below' hb
  replace qb := qb.below' hb
  replace q := nxt q hb
  clear hx3 hb
  have c3 := qp.at_ 3
  simp at c3
  have lbp := qp.lt
  go_wp2_with fail
  clear c3 lbp
  refine (repl_any p3 (by have := HZ.out; omega) _ (HT.out.below q) S3 HS3.out).mono ?_
  rintro e w5 ⟨rfl, hb⟩
  replace q2 := q2.below' hb
  replace qa := qa.below' hb
  replace qb := qb.below' hb
  replace q := nxt q hb
  clear hb qp
  go_wp2_with fail
  refine (atoi_any S3 (by have := HZ.out; omega) _ (HT.out.below q)).mono ?_
  rintro e w6 ⟨⟨n4, v4, rfl, hx4⟩, hb⟩
  have HX4 := hide hx4
  replace q2 := q2.below' hb
  replace qa := qa.below' hb
  replace qb := qb.below' hb
  replace q := nxt q hb
  clear hx4 hb
  have a1 := qa.at_ 1
  have a2 := qa.at_ 2
  have e1 := qb.at_ 1
  have e2 := qb.at_ 2
  simp at a1 a2 e1 e2
  have la := qa.lt
  have lb := qb.lt
  rcases HX1.out with ⟨h1, rfl⟩ | ⟨h1, t1, u1, rfl⟩
  rotate_left
  · obtain ⟨rfl, rfl⟩ := pr_no HP.out fun Y hY => by
      have h := HSAY.out Y hY
      rw [h.1] at h1; cases h1
    replace q2 := q2.alloc (.cells #[.int .i64 n1, .int .i64 b, .int .i64 y, .int .i64 c, .int .i64 z, .int .i64 (n3.tmod 12), .int .i64 n4] 23)
    replace q := nxt q ((Below.refl _ _).alloc (Nat.le_refl _) (.cells #[.int .i64 n1, .int .i64 b, .int .i64 y, .int .i64 c, .int .i64 z, .int .i64 (n3.tmod 12), .int .i64 n4] 23))
    have y0 := q2.at_ 0
    have f0 := q2.frozen 0
    have y1 := q2.at_ 1
    have f1 := q2.frozen 1
    have y2 := q2.at_ 2
    have f2 := q2.frozen 2
    have y3 := q2.at_ 3
    have f3 := q2.frozen 3
    have y4 := q2.at_ 4
    have f4 := q2.frozen 4
    have y5 := q2.at_ 5
    have f5 := q2.frozen 5
    have y6 := q2.at_ 6
    have f6 := q2.frozen 6
    simp at y0 y1 y2 y3 y4 y5 y6
    have l2 := q2.lt
    go_wp2_with fail
    refine bodyPost_ret (v := .tuple #[.agg #[.int .i64 0, .int .i64 0, .int .i64 0, .int .i64 0, .int .i64 0, .int .i64 0, .int .i64 0], .int .i64 3]) (by simp [results, Tryz.results17, go_sem, *]) rfl ?_
    exact ⟨rfl, set7 q (Nat.le_refl _) _ _ _ _ _ _ _⟩

  rcases HER.out with rfl | ⟨rfl, rfl, rfl, rfl, rfl, rfl, rfl⟩
  rotate_left
  · obtain ⟨rfl, rfl⟩ := pr_no HP.out fun Y hY => by
      have h := HSAY.out Y hY
      have h2 := h.2.1; rw [HPP.out] at h2; simp at h2
    replace q2 := q2.alloc (.cells #[.int .i64 n1, .int .i64 0, .int .i64 0, .int .i64 0, .int .i64 0, .int .i64 (n3.tmod 12), .int .i64 n4] 23)
    replace q := nxt q ((Below.refl _ _).alloc (Nat.le_refl _) (.cells #[.int .i64 n1, .int .i64 0, .int .i64 0, .int .i64 0, .int .i64 0, .int .i64 (n3.tmod 12), .int .i64 n4] 23))
    have y0 := q2.at_ 0
    have f0 := q2.frozen 0
    have y1 := q2.at_ 1
    have f1 := q2.frozen 1
    have y2 := q2.at_ 2
    have f2 := q2.frozen 2
    have y3 := q2.at_ 3
    have f3 := q2.frozen 3
    have y4 := q2.at_ 4
    have f4 := q2.frozen 4
    have y5 := q2.at_ 5
    have f5 := q2.frozen 5
    have y6 := q2.at_ 6
    have f6 := q2.frozen 6
    simp at y0 y1 y2 y3 y4 y5 y6
    have l2 := q2.lt
    go_wp2_with fail
    refine bodyPost_ret (v := .tuple #[.agg #[.int .i64 0, .int .i64 0, .int .i64 0, .int .i64 0, .int .i64 0, .int .i64 0, .int .i64 0], .int .i64 3]) (by simp [results, Tryz.results17, go_sem, *]) rfl ?_
    exact ⟨rfl, set7 q (Nat.le_refl _) _ _ _ _ _ _ _⟩

  rcases HX3.out with ⟨h3, rfl⟩ | ⟨h3, t1, u1, rfl⟩
  rotate_left
  · obtain ⟨rfl, rfl⟩ := pr_no HP.out fun Y hY => by
      have h := HSAY.out Y hY
      obtain ⟨k, hk, _⟩ := h.2.2.1
      rw [← HS2.out, data_strB, hk] at h3
      cases h3
    replace q2 := q2.alloc (.cells #[.int .i64 n1, .int .i64 b, .int .i64 y, .int .i64 c, .int .i64 z, .int .i64 (n3.tmod 12), .int .i64 n4] 23)
    replace q := nxt q ((Below.refl _ _).alloc (Nat.le_refl _) (.cells #[.int .i64 n1, .int .i64 b, .int .i64 y, .int .i64 c, .int .i64 z, .int .i64 (n3.tmod 12), .int .i64 n4] 23))
    have y0 := q2.at_ 0
    have f0 := q2.frozen 0
    have y1 := q2.at_ 1
    have f1 := q2.frozen 1
    have y2 := q2.at_ 2
    have f2 := q2.frozen 2
    have y3 := q2.at_ 3
    have f3 := q2.frozen 3
    have y4 := q2.at_ 4
    have f4 := q2.frozen 4
    have y5 := q2.at_ 5
    have f5 := q2.frozen 5
    have y6 := q2.at_ 6
    have f6 := q2.frozen 6
    simp at y0 y1 y2 y3 y4 y5 y6
    have l2 := q2.lt
    go_wp2_with fail
    refine bodyPost_ret (v := .tuple #[.agg #[.int .i64 0, .int .i64 0, .int .i64 0, .int .i64 0, .int .i64 0, .int .i64 0, .int .i64 0], .int .i64 3]) (by simp [results, Tryz.results17, go_sem, *]) rfl ?_
    exact ⟨rfl, set7 q (Nat.le_refl _) _ _ _ _ _ _ _⟩

  rcases HX4.out with ⟨h4, rfl⟩ | ⟨h4, t1, u1, rfl⟩
  rotate_left
  · obtain ⟨rfl, rfl⟩ := pr_no HP.out fun Y hY => by
      have h := HSAY.out Y hY
      have h5 := h.2.2.2
      rw [← HS3.out, data_strB, h5] at h4
      cases h4
    replace q2 := q2.alloc (.cells #[.int .i64 n1, .int .i64 b, .int .i64 y, .int .i64 c, .int .i64 z, .int .i64 (n3.tmod 12), .int .i64 n4] 23)
    replace q := nxt q ((Below.refl _ _).alloc (Nat.le_refl _) (.cells #[.int .i64 n1, .int .i64 b, .int .i64 y, .int .i64 c, .int .i64 z, .int .i64 (n3.tmod 12), .int .i64 n4] 23))
    have y0 := q2.at_ 0
    have f0 := q2.frozen 0
    have y1 := q2.at_ 1
    have f1 := q2.frozen 1
    have y2 := q2.at_ 2
    have f2 := q2.frozen 2
    have y3 := q2.at_ 3
    have f3 := q2.frozen 3
    have y4 := q2.at_ 4
    have f4 := q2.frozen 4
    have y5 := q2.at_ 5
    have f5 := q2.frozen 5
    have y6 := q2.at_ 6
    have f6 := q2.frozen 6
    simp at y0 y1 y2 y3 y4 y5 y6
    have l2 := q2.lt
    go_wp2_with fail
    refine bodyPost_ret (v := .tuple #[.agg #[.int .i64 0, .int .i64 0, .int .i64 0, .int .i64 0, .int .i64 0, .int .i64 0, .int .i64 0], .int .i64 3]) (by simp [results, Tryz.results17, go_sem, *]) rfl ?_
    exact ⟨rfl, set7 q (Nat.le_refl _) _ _ _ _ _ _ _⟩

  obtain ⟨U, hU⟩ : ∃ U, spT ⟨n1, b, y, c, z, n3.tmod 12, n4⟩ = U := ⟨_, rfl⟩
  have HU := hide hU
  clear hU
  go_wp2_with fail
  have hx := Box.new w6 #[.int .i64 n1, .int .i64 b, .int .i64 y, .int .i64 c, .int .i64 z, .int .i64 (n3.tmod 12), .int .i64 n4] 23
  replace q2 := q2.alloc (.cells #[.int .i64 n1, .int .i64 b, .int .i64 y, .int .i64 c, .int .i64 z, .int .i64 (n3.tmod 12), .int .i64 n4] 23)
  replace q := nxt q ((Below.refl _ _).alloc (Nat.le_refl _) (.cells #[.int .i64 n1, .int .i64 b, .int .i64 y, .int .i64 c, .int .i64 z, .int .i64 (n3.tmod 12), .int .i64 n4] 23))
  generalize w6.alloc _ = W7 at *
  refine (text9_any ⟨n1, b, y, c, z, n3.tmod 12, n4⟩ _ (HT.out.below q) U HU.out).mono ?_
  rintro e w8 ⟨rfl, hb⟩
  replace q2 := q2.below' hb
  replace hx := hx.below' hb
  replace q := nxt q hb
  clear hb a1 a2 e1 e2 la lb qa qb
  have lx := hx.lt
  have x0 : w8.cell? ⟨w6.heap.size, 0, none⟩ = some (.int .i64 n1) := hx.at_ 0
  have x1 : w8.cell? ⟨w6.heap.size, 1, none⟩ = some (.int .i64 b) := hx.at_ 1
  have x2 : w8.cell? ⟨w6.heap.size, 2, none⟩ = some (.int .i64 y) := hx.at_ 2
  have x3 : w8.cell? ⟨w6.heap.size, 3, none⟩ = some (.int .i64 c) := hx.at_ 3
  have x4 : w8.cell? ⟨w6.heap.size, 4, none⟩ = some (.int .i64 z) := hx.at_ 4
  have x5 : w8.cell? ⟨w6.heap.size, 5, none⟩ = some (.int .i64 (n3.tmod 12)) := hx.at_ 5
  have x6 : w8.cell? ⟨w6.heap.size, 6, none⟩ = some (.int .i64 n4) := hx.at_ 6
  by_cases hc : U = s
  · have hI : IsSp s.data.toList ⟨n1, b, y, c, z, n3.tmod 12, n4⟩ := by
      have hu := HU.out
      cases hv : vS ⟨n1, b, y, c, z, n3.tmod 12, n4⟩
      · rw [spT_false hv] at hu
        have h4 := partsB_four HH.out
        rw [← hc, ← hu] at h4
        exact absurd h4 (by decide)
      · rw [spT_true hv, hc] at hu
        exact ⟨hv, by rw [← hu, data_strB]⟩
    obtain ⟨rfl, rfl⟩ := HP.out.uniq (.inl ⟨rfl, hI⟩)
    have ee : (U.toList == s.toList) = true := by rw [hc]; exact beq_self_eq_true _
    clear hI hc
    have y0 := q2.at_ 0
    have f0 := q2.frozen 0
    have y1 := q2.at_ 1
    have f1 := q2.frozen 1
    have y2 := q2.at_ 2
    have f2 := q2.frozen 2
    have y3 := q2.at_ 3
    have f3 := q2.frozen 3
    have y4 := q2.at_ 4
    have f4 := q2.frozen 4
    have y5 := q2.at_ 5
    have f5 := q2.frozen 5
    have y6 := q2.at_ 6
    have f6 := q2.frozen 6
    simp at y0 y1 y2 y3 y4 y5 y6
    have l2 := q2.lt
    go_wp2_with fail
    refine bodyPost_ret (v := .tuple #[.agg #[.int .i64 n1, .int .i64 b, .int .i64 y, .int .i64 c, .int .i64 z, .int .i64 (n3.tmod 12), .int .i64 n4], .int .i64 0]) (by simp [results, Tryz.results17, go_sem, *]) rfl ?_
    exact ⟨rfl, set7 q (Nat.le_refl _) _ _ _ _ _ _ _⟩
  · obtain ⟨rfl, rfl⟩ := pr_no HP.out fun Y hY => by
      obtain ⟨g1, g2, ⟨k, g3, g4⟩, g5⟩ := HSAY.out Y hY
      rw [h1] at g1
      rw [HPP.out] at g2
      rw [← HS2.out, data_strB, g3] at h3
      rw [← HS3.out, data_strB, g5] at h4
      injection g1 with g1
      injection h3 with h3
      injection h4 with h4
      simp only [Prod.mk.injEq] at g2
      obtain ⟨⟨_, g6, g7⟩, ⟨_, g8, g9⟩, _⟩ := g2
      refine hc ?_
      have hu := HU.out
      rw [← h3, g4, g1, ← h4, g6, g7, g8, g9] at hu
      rw [← hu]
      have := PR.text (.inl ⟨rfl, hY⟩)
      rw [strB_data] at this
      exact this
    have ne : (U.toList == s.toList) = false := beq_eq_false_iff_ne.2 fun h => hc (toList_inj h)
    clear hc
    have y0 := q2.at_ 0
    have f0 := q2.frozen 0
    have y1 := q2.at_ 1
    have f1 := q2.frozen 1
    have y2 := q2.at_ 2
    have f2 := q2.frozen 2
    have y3 := q2.at_ 3
    have f3 := q2.frozen 3
    have y4 := q2.at_ 4
    have f4 := q2.frozen 4
    have y5 := q2.at_ 5
    have f5 := q2.frozen 5
    have y6 := q2.at_ 6
    have f6 := q2.frozen 6
    simp at y0 y1 y2 y3 y4 y5 y6
    have l2 := q2.lt
    go_wp2_with fail
    refine bodyPost_ret (v := .tuple #[.agg #[.int .i64 0, .int .i64 0, .int .i64 0, .int .i64 0, .int .i64 0, .int .i64 0, .int .i64 0], .int .i64 3]) (by simp [results, Tryz.results17, go_sem, *]) rfl ?_
    exact ⟨rfl, set7 q (Nat.le_refl _) _ _ _ _ _ _ _⟩
theorem parse9_any (s : ByteArray) (w : World) (hT : Lw w) (hs : s.size ≤ 5000) (X : Spc) (er : Int) (hp : PR s.data.toList X er) :
    Calls Tryz.prog 17 #[.string s] w fun e w' => e = .returned (.tuple #[.agg #[.int .i64 X.i, .int .i64 X.o, .int .i64 X.r, .int .i64 X.a, .int .i64 X.b, .int .i64 X.h, .int .i64 X.m], .int .i64 er]) ∧ Below w.heap.size w w' := by
  have hl := partsB_len s
  by_cases h : (partsB s).length < 4
  · obtain ⟨rfl, rfl⟩ := pr_no hp (parts_no h)
    exact parse9_f s w hT hs h
  · obtain ⟨p0, p1, p2, p3, h⟩ : ∃ p0 p1 p2 p3, partsB s = [p0, p1, p2, p3] := by
      match hq : partsB s, h, hl with
      | [a, b, c, d], _, _ => exact ⟨a, b, c, d, rfl⟩
      | [], h, _ => simp at h
      | [_], h, _ => simp at h
      | [_, _], h, _ => simp at h
      | [_, _, _], h, _ => simp at h
      | _ :: _ :: _ :: _ :: _ :: _, _, h => exact absurd h (by simp)
    exact parse9_4 s w hT hs p0 p1 p2 p3 h X er hp
end Go.Proofs.YtaapcfflnklpjaaGreatDoor
