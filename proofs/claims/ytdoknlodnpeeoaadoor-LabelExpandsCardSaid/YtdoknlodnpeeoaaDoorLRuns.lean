/- Runs: group, isAscending. -/
import Derived.Test.YtdoknlodnpeeoaaDoorLPair
import Derived.Deep.LoopGhost
import Derived.IntWalk
namespace Go.Proofs.YtdoknlodnpeeoaaDoor
open Go Go.RowKit Go.Lib

/-- a slice of ints that reads as xs -/
def IL (w : World) (A : Option Addr) (n : Nat) (xs : List Int) : Prop :=
  xs.length = n ∧ (0 < n → ∃ b o, A = some ⟨b, o, none⟩ ∧ ∀ (j : Nat) (x : Int), xs[j]? = some x → w.cell? ⟨b, o + j, none⟩ = some (.int .i64 x))
section
variable {w w' : World} {A : Option Addr} {n : Nat} {xs : List Int}
theorem IL.len (h : IL w A n xs) : xs.length = n := h.1
theorem IL.nil_ : IL w A 0 [] := ⟨rfl, fun h => absurd h (by omega)⟩
theorem IL.at_ (h : IL w A n xs) {j : Nat} (hj : j < n) : ∃ b o x, A = some ⟨b, o, none⟩ ∧ xs[j]? = some x ∧ w.cell? ⟨b, o + j, none⟩ = some (.int .i64 x) := by
  obtain ⟨b, o, e, hc⟩ := h.2 (by omega)
  have hl : j < xs.length := by rw [h.1]; exact hj
  exact ⟨b, o, xs[j], e, List.getElem?_eq_getElem hl, hc j _ (List.getElem?_eq_getElem hl)⟩
theorem IL.below (h : IL w A n xs) (hb : Below w.heap.size w w') : IL w' A n xs :=
  ⟨h.1, fun hn => by
    obtain ⟨b, o, e, hc⟩ := h.2 hn
    exact ⟨b, o, e, fun j x hx => (hb.cell (p := ⟨b, o + j, none⟩) (World.block_lt_of_cell? w _ (hc j x hx))).trans (hc j x hx)⟩⟩
end
/-- strictly ascending from y to n - 1 -/
def setB (n : Int) : Int → List Int → Bool
  | _, [] => true
  | y, x :: l => if x < y then false else if n ≤ x then false else setB n (x + 1) l
theorem drop_at5 {xs : List Int} {j : Nat} {x : Int} (h : xs[j]? = some x) : xs.drop j = x :: xs.drop (j + 1) := by
  obtain ⟨hj, e⟩ := List.getElem?_eq_some_iff.1 h
  rw [List.drop_eq_getElem_cons hj, e]
/-- the text of a group -/
def groupL (a b : Nat) : List UInt8 := if a = b then Lib.decDigits a else Lib.decDigits a ++ 45 :: Lib.decDigits b
set_option maxHeartbeats 1000000 in
theorem group_any (a b : Nat) (w : World) (hT : Lw w) (ha : a ≤ 9999) (hb : b ≤ 9999) (S : ByteArray) (hS : strB (groupL a b) = S) :
    Calls Tryd.prog 42 #[.int .i64 (a : Int), .int .i64 (b : Int)] w fun e w' => e = .returned (.string S) ∧ Below w.heap.size w w' := by
  have HT := hide hT
  unfold groupL at hS
  by_cases h : a = b
  · subst h
    rw [if_pos rfl] at hS
    have HS := hide hS
    clear hT hS
    go_enter Tryd.func42, Tryd.ntmps42
    go_wp2_with fail
    refine (itoa_any a _ HT.out (by omega) S HS.out).mono ?_
    rintro e w1 ⟨rfl, B⟩
    go_wp2
    go_ret
    exact ⟨rfl, B⟩
  · rw [if_neg h] at hS
    have d1 : ((a : Int) == (b : Int)) = false := beq_eq_false_iff_ne.2 (by omega)
    have d2 : (a == b) = false := beq_eq_false_iff_ne.2 h
    have z1 := dec_len4 4 a (by omega)
    have z2 := dec_len4 4 b (by omega)
    rw [← strB_size] at z1 z2
    obtain ⟨X, hX⟩ : ∃ X, strB (Lib.decDigits a) = X := ⟨_, rfl⟩
    obtain ⟨Y, hY⟩ : ∃ Y, strB (Lib.decDigits b) = Y := ⟨_, rfl⟩
    have HS := hide (show X ++ ⟨#[45]⟩ ++ Y = S from by
      rw [← hX, ← hY, show (⟨#[45]⟩ : ByteArray) = strB [45] from rfl, strB_app, strB_app, ← hS, List.append_assoc]
      rfl)
    rw [hX] at z1
    rw [hY] at z2
    have HX := hide hX
    have HY := hide hY
    have c3 : (X ++ (⟨#[45]⟩ : ByteArray)).size = X.size + 1 := by rw [ByteArray.size_append]; rfl
    have A1 := fun (W : World) => add_run X ⟨#[45]⟩ (by have h3 : (⟨#[45]⟩ : ByteArray).size = 1 := rfl; omega) W
    have A2 := fun (W : World) => add_run (X ++ ⟨#[45]⟩) Y (by omega) W
    clear hT hS hX hY
    go_enter Tryd.func42, Tryd.ntmps42
    go_wp2_with fail
    refine (itoa_any a _ HT.out (by omega) X HX.out).mono ?_
    rintro e w1 ⟨rfl, B⟩
    go_wp2_with fail
    refine (itoa_any b _ (HT.out.below B) (by omega) Y HY.out).mono ?_
    rintro e w2 ⟨rfl, hb2⟩
    have B := B.trans (hb2.mono B.size)
    go_wp2_with fail
    go_ret
    exact ⟨ret_str HS.out, B⟩
/-- what is known at place k: y is one more than the number before it -/
def AscAt5 (xs : List Int) (k : Nat) (y : Int) : Prop := 1 ≤ y ∧ (k = 0 → y = 1) ∧ (∀ f, k = f + 1 → xs[f]? = some (y - 1))
set_option maxHeartbeats 4000000 in
theorem isasc_any (A : Option Addr) (m c : Nat) (xs : List Int) (w : World) (hx : IL w A m xs) (hm : m ≤ maxLen) (r : Bool) (hr : setB 1000 1 xs = r) :
    Calls Tryd.prog 40 #[.slice A m c] w fun e w' => e = .returned (.bool r) ∧ w = w' := by
  unfold maxLen at hm
  have HX := hide hx
  have HR := hide hr
  clear hx hr
  go_enter Tryd.func40, Tryd.ntmps40
  go_wp2_with fail
  go_loopw [7] (fun v7 wr => ∃ (k : Nat) (y : Int), k ≤ m ∧ v7 = .int .i64 ((k : Nat) : Int) ∧ w = wr ∧ AscAt5 xs k y ∧ Hid (setB 1000 y (xs.drop k) = r)) (fun v7 _ => m - (RowKit.intOf v7).toNat)
  case atStart => exact ⟨0, 1, by omega, rfl, rfl, ⟨by omega, fun _ => rfl, fun f e => by omega⟩, hide (by rw [List.drop_zero]; exact HR.out)⟩
  case round =>
    obtain ⟨k, y, hk, rfl, rfl, ⟨y0, yz, yf⟩, HS⟩ := hrel
    by_cases hlt : k < m
    · obtain ⟨b, o, x, rfl, hx1, k0⟩ := HX.out.at_ hlt
      have HD := hide (show setB 1000 y (x :: xs.drop (k + 1)) = r from by rw [← drop_at5 hx1]; exact HS.out)
      have HX1 := hide hx1
      clear hx1 HS
      have i1 : (0 : Int) ≤ (k : Int) := by omega
      have i2 : (k : Int) < (m : Int) := by omega
      by_cases hn : 1 ≤ x ∧ x ≤ 999
      · have HN := hide (show decide (1 ≤ x ∧ x ≤ 999) = true from decide_eq_true hn)
        rcases Nat.eq_zero_or_pos k with hk0 | hk0
        · subst hk0
          rw [Nat.add_zero] at k0
          obtain rfl : y = 1 := yz rfl
          have HG := hide (show setB 1000 (x + 1) (xs.drop (0 + 1)) = r from by rw [← HD.out]; show _ = (if _ then _ else _); rw [if_neg (by omega), if_neg (by omega)])
          have HO := hide (show AscAt5 xs (0 + 1) (x + 1) from ⟨by omega, fun e => by omega, fun f e => by
            obtain rfl : f = 0 := by omega
            rw [Int.add_sub_cancel]; exact HX1.out⟩)
          clear yz yf hn
          go_wp2_with fail
          refine (isnum_any x _ true HN.out).mono ?_
          rintro e w1 ⟨rfl, rfl⟩
          go_wp2_with fail
          go_roundw
          case rel => exact ⟨0 + 1, _, by omega, by go_num, (by first | rfl | trivial), HO.out, HG⟩
          case measure => simp [RowKit.intOf]; omega
        · obtain ⟨f, rfl⟩ : ∃ f, k = f + 1 := ⟨k - 1, by omega⟩
          have hp := yf f rfl
          obtain ⟨b2, o2, x2, he, hx2, k2⟩ := HX.out.at_ (show f < m by omega)
          obtain ⟨rfl, rfl⟩ : b = b2 ∧ o = o2 := by injection he with he; injection he with h1 h2; exact ⟨h1, h2⟩
          obtain rfl : x2 = y - 1 := by rw [hp] at hx2; exact (Option.some.inj hx2).symm
          have d1 : decide ((0 : Int) < ((f + 1 : Nat) : Int)) = true := decide_eq_true (by omega)
          have e1 : ((f + 1 : Nat) : Int) - 1 = (f : Int) := by omega
          have j1 : (0 : Int) ≤ (f : Int) := by omega
          have j2 : (f : Int) < (m : Int) := by omega
          by_cases hxy : x ≤ y - 1
          · have d2 : decide (x ≤ y - 1) = true := decide_eq_true hxy
            obtain rfl : r = false := by rw [← HD.out]; show (if _ then _ else _) = _; rw [if_pos (by omega)]
            clear yz yf hn hp hx2 he
            go_wp2_with fail
            refine (isnum_any x _ true HN.out).mono ?_
            rintro e w1 ⟨rfl, rfl⟩
            go_wp2_with fail
            go_ret
            exact ⟨rfl, rfl⟩
          · have d2 : decide (x ≤ y - 1) = false := decide_eq_false hxy
            have HG := hide (show setB 1000 (x + 1) (xs.drop (f + 1 + 1)) = r from by rw [← HD.out]; show _ = (if _ then _ else _); rw [if_neg (by omega), if_neg (by omega)])
            have HO := hide (show AscAt5 xs (f + 1 + 1) (x + 1) from ⟨by omega, fun e => by omega, fun g e => by
              obtain rfl : g = f + 1 := by omega
              rw [Int.add_sub_cancel]; exact HX1.out⟩)
            clear yz yf hn hp hx2 he
            go_wp2_with fail
            refine (isnum_any x _ true HN.out).mono ?_
            rintro e w1 ⟨rfl, rfl⟩
            go_wp2_with fail
            go_roundw
            case rel => exact ⟨f + 1 + 1, _, by omega, by go_num, (by first | rfl | trivial), HO.out, HG⟩
            case measure => simp [RowKit.intOf]; omega
      · have HN := hide (show decide (1 ≤ x ∧ x ≤ 999) = false from decide_eq_false hn)
        obtain rfl : r = false := by
          rw [← HD.out]
          show (if _ then _ else _) = _
          split
          · rfl
          · rw [if_pos (by omega)]
        clear yz yf hn
        go_wp2_with fail
        refine (isnum_any x _ false HN.out).mono ?_
        rintro e w1 ⟨rfl, rfl⟩
        go_wp2_with fail
        go_ret
        exact ⟨rfl, rfl⟩
    · obtain rfl : r = true := by
        rw [← HS.out, List.drop_of_length_le (by rw [HX.out.len]; omega)]; rfl
      have d0 : decide ((k : Int) < (m : Int)) = false := decide_eq_false (by omega)
      have d1 : decide (k < m) = false := decide_eq_false hlt
      clear yz yf HS
      go_wp2_with fail
      go_ret
      exact ⟨rfl, rfl⟩
/-- how many go on by one each behind p -/
def consL : Int → List Int → Nat
  | _, [] => 0
  | p, x :: l => if x = p + 1 then consL x l + 1 else 0
theorem consL_le : ∀ (p : Int) (l : List Int), consL p l ≤ l.length
  | _, [] => Nat.le_refl _
  | p, x :: l => by
    unfold consL
    split
    · have := consL_le x l
      simp only [List.length_cons]; omega
    · exact Nat.zero_le _
set_option maxHeartbeats 4000000 in
theorem glen_any (A : Option Addr) (m c : Nat) (x0 : Int) (xs : List Int) (w : World) (hx : IL w A m (x0 :: xs)) (hm : m ≤ maxLen) (hb : ∀ (j : Nat) (x : Int), (x0 :: xs)[j]? = some x → 1 ≤ x ∧ x ≤ 999) (G : Nat) (hG : consL x0 xs + 1 = G) :
    Calls Tryd.prog 41 #[.slice A m c] w fun e w' => e = .returned (.int .i64 (G : Int)) ∧ Below w.heap.size w w' := by
  unfold maxLen at hm
  have HX := hide hx
  have HG := hide hG
  have HB := hide hb
  clear hx hG hb
  go_enter Tryd.func41, Tryd.ntmps41
  go_wp2_with fail
  go_loopw [3] (fun v3 wr => ∃ (f q : Nat) (p : Int), f + 1 ≤ m ∧ v3 = .int .i64 (((f + 1 : Nat)) : Int) ∧ wr = w.drewN q ∧ Hid ((x0 :: xs)[f]? = some p) ∧ Hid (consL p ((x0 :: xs).drop (f + 1)) + (f + 1) = G)) (fun v3 _ => m - (RowKit.intOf v3).toNat)
  case atStart => exact ⟨0, 0, x0, by have := HX.out.len; simp at this; omega, rfl, rfl, hide rfl, hide (by rw [← HG.out]; rfl)⟩
  case round =>
    obtain ⟨f, q, p, hk, rfl, rfl, HP, HS⟩ := hrel
    have HW : Hid (Below w.heap.size w (w.drewN q)) := below_drewN (Below.refl _ _) q
    have HQ : Hid (∀ z, (w.drewN q).drewN z = w.drewN (q + z)) := fun z => World.drewN_drewN _ _ _
    have HXX : Hid (IL (w.drewN q) A m (x0 :: xs)) := HX.out.below HW.out
    obtain ⟨b, o, x1, rfl, hp1, k0⟩ := HXX.out.at_ (show f < m by omega)
    obtain rfl : x1 = p := by rw [HP.out] at hp1; exact (Option.some.inj hp1).symm
    obtain ⟨pb1, pb2⟩ := HB.out f x1 HP.out
    clear hp1
    generalize w.drewN q = W at *
    have j1 : (0 : Int) ≤ (f : Int) := by omega
    have j2 : (f : Int) < (m : Int) := by omega
    by_cases hlt : f + 1 < m
    · obtain ⟨b2, o2, x2, he, hx2, k2⟩ := HXX.out.at_ hlt
      obtain ⟨rfl, rfl⟩ : b = b2 ∧ o = o2 := by injection he with he; injection he with h1 h2; exact ⟨h1, h2⟩
      have HD := hide (show consL x1 (x2 :: (x0 :: xs).drop (f + 1 + 1)) + (f + 1) = G from by rw [← drop_at5 hx2]; exact HS.out)
      have HX2 := hide hx2
      clear hx2 he HS
      have d0 : decide (((f + 1 : Nat) : Int) < (m : Int)) = true := decide_eq_true (by omega)
      have d0' : decide (f + 1 < m) = true := decide_eq_true hlt
      have d0'' : decide ((f : Int) + 1 < (m : Int)) = true := decide_eq_true (by omega)
      have i1 : (0 : Int) ≤ (f : Int) + 1 := by omega
      have i2 : (f : Int) + 1 < (m : Int) := by omega
      have e9 : ((f : Int) + 1).toNat = f + 1 := by omega
      have HM := hide (show m ≤ 9223372036854775807 from by omega)
      have W1 : IntKind.i64.wrap (((f + 1 : Nat) : Int) - 1) = (f : Int) := by rw [show ((f + 1 : Nat) : Int) - 1 = (f : Int) by omega]; exact IntWalk.i64_in _ (by omega)
      have W2 : IntKind.i64.wrap ((f : Int) + 1 - 1) = (f : Int) := by rw [show (f : Int) + 1 - 1 = (f : Int) by omega]; exact IntWalk.i64_in _ (by omega)
      have W3 : IntKind.i64.wrap (f : Int) = (f : Int) := IntWalk.i64_in _ (by omega)
      have W4 : IntKind.i64.wrap (x1 + 1) = x1 + 1 := IntWalk.i64_in _ (by omega)
      by_cases hxy : x2 = x1 + 1
      · have d2 : (x2 == x1 + 1) = true := beq_iff_eq.2 hxy
        have HH := hide (show consL x2 ((x0 :: xs).drop (f + 1 + 1)) + (f + 1 + 1) = G from by rw [← HD.out]; show _ = (if _ then _ else _) + _; rw [if_pos hxy]; omega)
        have HF := hide (show f + 1 < m from hlt)
        clear hxy hlt
        go_wp2_with fail
        go_quiet (fail)
        clear W1 W2 W3 W4 e9
        go_wp2_with fail
        go_roundw
        case rel => exact ⟨f + 1, _, x2, by have := HF.out; omega, by go_num, HQ.out _, HX2, HH⟩
        case measure => have := HF.out; simp [RowKit.intOf]; omega
      · have d2 : (x2 == x1 + 1) = false := beq_eq_false_iff_ne.2 hxy
        have HH := hide (show f + 1 = G from by rw [← HD.out]; show _ = (if _ then _ else _) + _; rw [if_neg hxy, Nat.zero_add])
        clear hxy hlt
        go_wp2_with fail
        go_quiet (fail)
        clear W1 W2 W3 W4 e9
        go_wp2_with fail
        go_ret
        exact ⟨by rw [← HH.out]; rfl, below_drewN HW.out _⟩
    · have d0 : decide (((f + 1 : Nat) : Int) < (m : Int)) = false := decide_eq_false (by omega)
      have d0' : decide (f + 1 < m) = false := decide_eq_false hlt
      have d0'' : decide ((f : Int) + 1 < (m : Int)) = false := decide_eq_false (by omega)
      have HH := hide (show f + 1 = G from by rw [← HS.out, List.drop_of_length_le (by rw [HX.out.len]; omega)]; show _ = 0 + _; omega)
      clear hlt
      go_wp2_with fail
      go_quiet (fail)
      go_wp2_with fail
      go_ret
      exact ⟨by rw [← HH.out]; rfl, below_drewN HW.out _⟩
end Go.Proofs.YtdoknlodnpeeoaaDoor
