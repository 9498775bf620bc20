/- FractionDecimals: the walk. -/
import Derived.Test.YtanhofmgapbjfaaDoorNorms
import Derived.Test.YtanhofmgapbjfaaDoorGDec
namespace Go.Proofs.YtanhofmgapbjfaaDoor
open Go Go.RowKit

theorem dpoint_lt {k : Nat} {l : List Nat} (h : ∀ x ∈ l, x < 256) : ∀ x ∈ dpoint k l, x < 256 := by
  intro x hx
  unfold dpoint at hx
  split at hx
  · exact h x hx
  · rw [List.mem_append, List.mem_cons] at hx
    rcases hx with hx | rfl | hx
    · exact h x (List.mem_of_mem_take hx)
    · decide
    · exact h x (List.mem_of_mem_drop hx)
theorem dpad_lt {k : Nat} {l : List Nat} (h : ∀ x ∈ l, x < 256) : ∀ x ∈ dpad k l, x < 256 := by
  intro x hx
  unfold dpad at hx
  rw [List.mem_append, List.mem_replicate] at hx
  rcases hx with ⟨_, rfl⟩ | hx
  · decide
  · exact h x hx
theorem dtext_lt {p : Bool} {T k : Nat} : ∀ x ∈ dtext p T k, x < 256 := by
  have h := dpoint_lt (k := k) (dpad_lt (k := k) (asc_digits T).lt256)
  intro x hx
  unfold dtext at hx
  split at hx
  · rw [List.mem_cons] at hx
    rcases hx with rfl | hx
    · decide
    · exact h x hx
  · exact h x hx
theorem rnd_lt {u v k : Nat} (hu : u < B9 ^ 7) (hv : v < B9 ^ 7) (hk : k ≤ 20) : rnd u v k < B9 ^ 11 := by
  unfold rnd
  split
  · exact Nat.pow_pos (by decide)
  · refine Nat.lt_of_le_of_lt (Nat.div_le_self _ _) ?_
    have h1 : u * 10 ^ k < B9 ^ (7 + 3) := mulB hu (tenB hk)
    have h2 : v < B9 ^ 10 := upB hv (by omega)
    have h3 : B9 ^ 11 = B9 ^ 10 * 1000000000 := by rw [Nat.pow_succ]
    have h4 : u * 10 ^ k < B9 ^ 10 := h1
    omega
set_option maxHeartbeats 16000000 in
set_option maxRecDepth 100000 in
theorem decs_ok (HA : Hid Awake) (k : Int) (pa : Bool) (Aa : Option Addr) (na ca : Nat) (Ba : Option Addr) (ma da : Nat) (x : Rat) (w : World) (hx : Fr w 6 pa Aa na ca Ba ma da x) (hT : Tab w) (k1 : 0 ≤ k) (k2 : k ≤ 20) (hf : na ≤ 6 ∧ ma ≤ 6) :
    Calls Tryd.prog 6 #[.agg #[.bool pa, .slice Aa na ca, .slice Ba ma da], .int .i64 k] w fun e w' => e = .returned (.bool true) ∧ Below w.heap.size w w' := by
  have HFW := hide hf
  have HT0 := hide hT
  clear hf hT
  obtain ⟨kk, rfl⟩ : ∃ kk : Nat, k = (kk : Int) := ⟨k.toNat, by omega⟩
  have HK := hide (show kk ≤ 20 from by omega)
  clear k1 k2
  obtain ⟨u, v, hA, hB, hq⟩ := hx
  obtain ⟨T, hTT⟩ : ∃ T, rnd u v kk = T := ⟨_, rfl⟩
  have HTL := hide (show T < B9 ^ 11 from by rw [← hTT]; exact rnd_lt hA.lt hB.lt HK.out)
  obtain ⟨S, hS⟩ : ∃ S, bytesOf S = dtext pa T kk := ⟨strN (dtext pa T kk), bytesOf_strN dtext_lt⟩
  have HT := hide hTT
  have HS := hide hS
  clear hq hTT hS
  go_enter Tryd.func6, Tryd.ntmps6
  go_wp2_with fail
  generalize hW : w.alloc _ = W
  obtain ⟨hbW, ba, -⟩ := boxesA1 hW
  clear hW
  refine (HA.out _ (HT0.out.below hbW)).mono ?_
  rintro e w1 ⟨rfl, hb1⟩
  have hbA := hbW.trans (hb1.mono hbW.size)
  have ba := ba.below' hb1
  clear hb1 hbW
  have k0 : w1.cell? ⟨w.heap.size, 0, none⟩ = some (.bool pa) := ba.at_ 0
  have k1 : w1.cell? ⟨w.heap.size, 1, none⟩ = some (.slice Aa na ca) := ba.at_ 1
  have k2 : w1.cell? ⟨w.heap.size, 2, none⟩ = some (.slice Ba ma da) := ba.at_ 2
  have lt0 := ba.lt
  go_wp2_with fail
  clear k0 k1 k2 lt0
  generalize hW : w1.alloc _ = W1
  obtain ⟨hb, hfew⟩ := few1 hW
  clear hW
  have hbA := hbA.trans (hb.mono hbA.size)
  have ba := ba.below' hb
  clear hb
  refine (few_any _ 1 1 _ _ _ (by simp [maxLen]) hfew true (by rw [isFew1]; simp [HFW.out])).mono ?_
  rintro e w2 ⟨rfl, rfl⟩
  clear hfew
  have hA := hA.below hbA
  have hB := hB.below hbA
  have k0 : w2.cell? ⟨w.heap.size, 0, none⟩ = some (.bool pa) := ba.at_ 0
  have k1 : w2.cell? ⟨w.heap.size, 1, none⟩ = some (.slice Aa na ca) := ba.at_ 1
  have k2 : w2.cell? ⟨w.heap.size, 2, none⟩ = some (.slice Ba ma da) := ba.at_ 2
  go_wp2_with fail
  clear k0 k1 k2
  refine (fdecimal_any 6 (by omega) (by omega) pa Aa na ca u Ba ma da v kk HK.out _ hA hB (HT0.out.below hbA) T HT.out HTL.out S HS.out).mono ?_
  rintro e w3 ⟨rfl, hb3⟩
  have hbA := hbA.trans (hb3.mono hbA.size)
  have hA := hA.below hb3
  have hB := hB.below hb3
  have ba := ba.below' hb3
  clear hb3
  have k0 : w3.cell? ⟨w.heap.size, 0, none⟩ = some (.bool pa) := ba.at_ 0
  have k1 : w3.cell? ⟨w.heap.size, 1, none⟩ = some (.slice Aa na ca) := ba.at_ 1
  have k2 : w3.cell? ⟨w.heap.size, 2, none⟩ = some (.slice Ba ma da) := ba.at_ 2
  go_wp2_with fail
  clear k0 k1 k2
  refine (gdecimal_any pa Aa na ca u Ba ma da v kk HK.out _ hA hB T HT.out HTL.out S HS.out).mono ?_
  rintro e w4 ⟨rfl, hb4⟩
  have hbZ := hbA.trans (hb4.mono hbA.size)
  clear hb4 hA hB ba
  go_wp2
  go_ret
  exact ⟨rfl, hbZ⟩
set_option maxHeartbeats 16000000 in
set_option maxRecDepth 100000 in
theorem decs_err (HA : Hid Awake) (k : Int) (pa : Bool) (Aa : Option Addr) (na ca : Nat) (Ba : Option Addr) (ma da : Nat) (w : World)  (hT : Tab w) (hk : k < 0 ∨ 20 < k) (hf : na ≤ 6 ∧ ma ≤ 6) :
    Calls Tryd.prog 6 #[.agg #[.bool pa, .slice Aa na ca, .slice Ba ma da], .int .i64 k] w fun e w' => e = .returned (.bool true) ∧ Below w.heap.size w w' := by
  have HFW := hide hf
  have HT0 := hide hT
  clear hf hT
  have HK := hide hk
  clear hk
  go_enter Tryd.func6, Tryd.ntmps6
  go_wp2_with fail
  generalize hW : w.alloc _ = W
  obtain ⟨hbW, ba, -⟩ := boxesA1 hW
  clear hW
  refine (HA.out _ (HT0.out.below hbW)).mono ?_
  rintro e w1 ⟨rfl, hb1⟩
  have hbA := hbW.trans (hb1.mono hbW.size)
  have ba := ba.below' hb1
  clear hb1 hbW
  have k0 : w1.cell? ⟨w.heap.size, 0, none⟩ = some (.bool pa) := ba.at_ 0
  have k1 : w1.cell? ⟨w.heap.size, 1, none⟩ = some (.slice Aa na ca) := ba.at_ 1
  have k2 : w1.cell? ⟨w.heap.size, 2, none⟩ = some (.slice Ba ma da) := ba.at_ 2
  have lt0 := ba.lt
  go_wp2_with fail
  clear k0 k1 k2 lt0
  generalize hW : w1.alloc _ = W1
  obtain ⟨hb, hfew⟩ := few1 hW
  clear hW
  have hbA := hbA.trans (hb.mono hbA.size)
  have ba := ba.below' hb
  clear hb
  refine (few_any _ 1 1 _ _ _ (by simp [maxLen]) hfew true (by rw [isFew1]; simp [HFW.out])).mono ?_
  rintro e w2 ⟨rfl, rfl⟩
  clear hfew
  have k0 : w2.cell? ⟨w.heap.size, 0, none⟩ = some (.bool pa) := ba.at_ 0
  have k1 : w2.cell? ⟨w.heap.size, 1, none⟩ = some (.slice Aa na ca) := ba.at_ 1
  have k2 : w2.cell? ⟨w.heap.size, 2, none⟩ = some (.slice Ba ma da) := ba.at_ 2
  go_wp2_with fail
  clear k0 k1 k2
  refine (fdecimal_err pa Aa na ca Ba ma da k HK.out _).mono ?_
  rintro e w3 ⟨rfl, hb3⟩
  have hbA := hbA.trans (hb3.mono hbA.size)
  have ba := ba.below' hb3
  clear hb3
  have k0 : w3.cell? ⟨w.heap.size, 0, none⟩ = some (.bool pa) := ba.at_ 0
  have k1 : w3.cell? ⟨w.heap.size, 1, none⟩ = some (.slice Aa na ca) := ba.at_ 1
  have k2 : w3.cell? ⟨w.heap.size, 2, none⟩ = some (.slice Ba ma da) := ba.at_ 2
  go_wp2_with fail
  clear k0 k1 k2
  refine (gdecimal_err pa Aa na ca Ba ma da k HK.out _).mono ?_
  rintro e w4 ⟨rfl, hb4⟩
  have hbZ := hbA.trans (hb4.mono hbA.size)
  clear hb4 ba
  go_wp2
  go_ret
  exact ⟨rfl, hbZ⟩
set_option maxHeartbeats 16000000 in
set_option maxRecDepth 100000 in
theorem decs_no (HA : Hid Awake) (k : Int) (pa : Bool) (Aa : Option Addr) (na ca : Nat) (Ba : Option Addr) (ma da : Nat)  (w : World)  (hT : Tab w) (hf : ¬(na ≤ 6 ∧ ma ≤ 6)) :
    Calls Tryd.prog 6 #[.agg #[.bool pa, .slice Aa na ca, .slice Ba ma da], .int .i64 k] w fun e w' => e = .returned (.bool true) ∧ Below w.heap.size w w' := by
  have HFW := hide hf
  have HT0 := hide hT
  clear hf hT
  go_enter Tryd.func6, Tryd.ntmps6
  go_wp2_with fail
  generalize hW : w.alloc _ = W
  obtain ⟨hbW, ba, -⟩ := boxesA1 hW
  clear hW
  refine (HA.out _ (HT0.out.below hbW)).mono ?_
  rintro e w1 ⟨rfl, hb1⟩
  have hbA := hbW.trans (hb1.mono hbW.size)
  have ba := ba.below' hb1
  clear hb1 hbW
  have k0 : w1.cell? ⟨w.heap.size, 0, none⟩ = some (.bool pa) := ba.at_ 0
  have k1 : w1.cell? ⟨w.heap.size, 1, none⟩ = some (.slice Aa na ca) := ba.at_ 1
  have k2 : w1.cell? ⟨w.heap.size, 2, none⟩ = some (.slice Ba ma da) := ba.at_ 2
  have lt0 := ba.lt
  go_wp2_with fail
  clear k0 k1 k2 lt0
  generalize hW : w1.alloc _ = W1
  obtain ⟨hb, hfew⟩ := few1 hW
  clear hW
  have hbA := hbA.trans (hb.mono hbA.size)
  have ba := ba.below' hb
  clear hb
  refine (few_any _ 1 1 _ _ _ (by simp [maxLen]) hfew false ⟨fun h => absurd (isFew1.1 h) HFW.out, fun h => by cases h⟩).mono ?_
  rintro e w2 ⟨rfl, rfl⟩
  clear hfew
  go_wp2_with fail
  refine (HA.out _ (HT0.out.below hbA)).mono ?_
  rintro e w3 ⟨rfl, hb3⟩
  have hbZ := hbA.trans (hb3.mono hbA.size)
  clear hb3 hbA
  go_wp2
  go_ret
  exact ⟨rfl, hbZ⟩
end Go.Proofs.YtanhofmgapbjfaaDoor
