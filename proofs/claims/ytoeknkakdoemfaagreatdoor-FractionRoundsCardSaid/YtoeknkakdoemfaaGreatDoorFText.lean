/- The contracts of fraction.canonicalText, Text. -/
import Derived.Test.YtoeknkakdoemfaaGreatDoorBaseE
import Derived.Deep.RegionHeld3
namespace Go.Proofs.YtoeknkakdoemfaaGreatDoor
open Go Go.RowKit

theorem Cn.ntn {w : World} {L n c u : Nat} {A : Option Addr} (h : Cn w A n c u) (hn : n ≤ L) : Nt w L A n c u := ⟨_, h.1, h.2.1, h.2.2, hn, dig_u32 u, vd u⟩
set_option maxHeartbeats 1000000 in
theorem canonText_whole (p : Bool) (A : Option Addr) (n c u : Nat) (B : Option Addr) (m d : Nat) (w : World) (hA : Cn w A n c u) (hB : Cn w B m d 1) (hn : n ≤ 100000) (hT : Tab w) (s : ByteArray) (hs : strN (asc u) = s) (hz : s.size ≤ 1000000) :
    Calls Tryz.prog 31 #[.agg #[.bool p, .slice A n c, .slice B m d]] w fun e w' => e = .returned (.string (if p then strN [45] ++ s else s)) ∧ Below w.heap.size w w' := by
  have HS := hide hs
  have hT2 := hide hT
  clear hs hT
  go_enter Tryz.func31, Tryz.ntmps31
  go_wp2_with fail
  generalize hW : w.alloc _ = W
  obtain ⟨hbW, b0, -⟩ := boxesA1 hW
  clear hW
  have hA := hA.below hbW
  have hB := hB.below hbW
  refine (text_g A n c _ _ hA.1 hA.2.1 hA.2.2 (by omega) (dig_u32 u) (hT2.out.below hbW) u (vd u) s HS.out).mono ?_
  rintro e w1 ⟨rfl, hb1⟩
  have hbA := hbW.trans (hb1.mono hbW.size)
  have b0 := b0.below' hb1
  have hB := hB.below hb1
  have k2 : w1.cell? ⟨w.heap.size, 2, none⟩ = some (.slice B m d) := b0.at_ 2
  clear hb1 hA
  have k0 : w1.cell? ⟨w.heap.size, 0, none⟩ = some (.bool p) := b0.at_ 0
  have lt0 := b0.lt
  have KS : Hid (∀ w', Below w1.heap.size w1 w' → w'.cell? ⟨w.heap.size, 2, none⟩ = some (.slice B m d)) := fun w' h => (b0.below h lt0).at_ 2
  have P0 : Below w1.heap.size w1 w1.drew := (Below.refl _ _).drew
  go_wp2_with fail
  go_region_held3 (fun w' => w'.cell? ⟨w.heap.size, 2, none⟩ = some (.slice B m d))
    (first | exact KS.out _ Ec | exact KS.out _ Eo | exact KS.out _ P0 | exact KS.out _ (Below.refl _ _))
    (first
      | (go_at_call_of 64 (Value.int .u64 1); (with_reducible refine (of_one _).mono ?_); rintro e wo ⟨Ao, no, co, rfl, ro, lo, mo, hxo⟩; have Eo := P0.trans (hxo.mono P0.size); have ho : Cn wo Ao no co 1 := ⟨ro, lo, mo⟩)
      | (go_at_call_of 63 (Value.slice B m d); (with_reducible refine (cmp_n (L := 1) ((hB.below Eo).nt (by decide)) (ho.nt (by decide)) (by omega) 0 (by decide)).mono ?_); rintro e wc ⟨rfl, hxc⟩; have Ec := Eo.trans (hxc.mono Eo.size)))
  have hbA := hbA.trans (Ec.mono hbA.size)
  have k0 : wc.cell? ⟨w.heap.size, 0, none⟩ = some (.bool p) := (b0.below' Ec).at_ 0
  clear Ec Eo hxo hxc ho ro lo mo hB k2 KS P0
  cases p
  · go_wp2_with fail
    go_ret
    exact ⟨rfl, hbA⟩
  · have c1 : (⟨#[45]⟩ : ByteArray).size = 1 := rfl
    have c3 : (⟨#[45]⟩ : ByteArray).size + s.size ≤ 1000001 := by omega
    go_wp2_with fail
    go_ret
    exact ⟨rfl, hbA⟩
set_option maxHeartbeats 1000000 in
theorem canonText_frac (p : Bool) (A : Option Addr) (n c u : Nat) (B : Option Addr) (m d : Nat) (w : World) (hA : Cn w A n c u) (v : Nat) (hv : v ≠ 1) (hB : Cn w B m d v) (hn : n ≤ 100000) (hm : m ≤ 100000) (hT : Tab w) (s : ByteArray) (hs : strN (asc u) = s) (hz : s.size ≤ 1000000) (t : ByteArray) (ht : strN (asc v) = t) (hzt : t.size ≤ 1000000) :
    Calls Tryz.prog 31 #[.agg #[.bool p, .slice A n c, .slice B m d]] w fun e w' => e = .returned (.string (if p then strN [45] ++ (s ++ (strN [47] ++ t)) else s ++ (strN [47] ++ t))) ∧ Below w.heap.size w w' := by
  have HS := hide hs
  have HTT := hide ht
  obtain ⟨o, ho⟩ : ∃ o, cmpI v 1 = o := ⟨_, rfl⟩
  have HO := hide ho
  have hne : (o == 0) = false := by
    rw [← ho]
    by_cases h : v < 1
    · rw [cmpI_lt h]; rfl
    · rw [cmpI_gt (by omega)]; rfl
  clear ho hv ht
  have hT2 := hide hT
  clear hs hT
  go_enter Tryz.func31, Tryz.ntmps31
  go_wp2_with fail
  generalize hW : w.alloc _ = W
  obtain ⟨hbW, b0, -⟩ := boxesA1 hW
  clear hW
  have hA := hA.below hbW
  have hB := hB.below hbW
  refine (text_g A n c _ _ hA.1 hA.2.1 hA.2.2 (by omega) (dig_u32 u) (hT2.out.below hbW) u (vd u) s HS.out).mono ?_
  rintro e w1 ⟨rfl, hb1⟩
  have hbA := hbW.trans (hb1.mono hbW.size)
  have b0 := b0.below' hb1
  have hB := hB.below hb1
  have k2 : w1.cell? ⟨w.heap.size, 2, none⟩ = some (.slice B m d) := b0.at_ 2
  clear hb1 hA
  have k0 : w1.cell? ⟨w.heap.size, 0, none⟩ = some (.bool p) := b0.at_ 0
  have lt0 := b0.lt
  have KS : Hid (∀ w', Below w1.heap.size w1 w' → w'.cell? ⟨w.heap.size, 2, none⟩ = some (.slice B m d)) := fun w' h => (b0.below h lt0).at_ 2
  have P0 : Below w1.heap.size w1 w1.drew := (Below.refl _ _).drew
  go_wp2_with fail
  go_region_held3 (fun w' => w'.cell? ⟨w.heap.size, 2, none⟩ = some (.slice B m d))
    (first | exact KS.out _ Ec | exact KS.out _ Eo | exact KS.out _ P0 | exact KS.out _ (Below.refl _ _))
    (first
      | (go_at_call_of 64 (Value.int .u64 1); (with_reducible refine (of_one _).mono ?_); rintro e wo ⟨Ao, no, co, rfl, ro, lo, mo, hxo⟩; have Eo := P0.trans (hxo.mono P0.size); have ho : Cn wo Ao no co 1 := ⟨ro, lo, mo⟩)
      | (go_at_call_of 63 (Value.slice B m d); (with_reducible refine (cmp_n (L := 100000) ((hB.below Eo).ntn hm) ((ho.nt (L := 1) (by decide)).up (by omega)) (by omega) o HO.out).mono ?_); rintro e wc ⟨rfl, hxc⟩; have Ec := Eo.trans (hxc.mono Eo.size)))
  have hbA := hbA.trans (Ec.mono hbA.size)
  have b0 := b0.below' Ec
  have hB := hB.below Ec
  have k2 : wc.cell? ⟨w.heap.size, 2, none⟩ = some (.slice B m d) := b0.at_ 2
  clear Ec Eo hxo hxc ho ro lo mo KS P0 k0
  go_wp2_with fail
  refine (text_g B m d _ _ hB.1 hB.2.1 hB.2.2 (by omega) (dig_u32 v) (hT2.out.below hbA) v (vd v) t HTT.out).mono ?_
  rintro e w3 ⟨rfl, hb3⟩
  have hbZ := hbA.trans (hb3.mono hbA.size)
  have k0 : w3.cell? ⟨w.heap.size, 0, none⟩ = some (.bool p) := (b0.below' hb3).at_ 0
  have c1 : (⟨#[47]⟩ : ByteArray).size = 1 := rfl
  have c3 : (⟨#[47]⟩ : ByteArray).size + t.size ≤ 1000001 := by omega
  have c4 : ((⟨#[47]⟩ : ByteArray) ++ t).size ≤ 1000001 := by rw [ByteArray.size_append]; omega
  have c5 : s.size + ((⟨#[47]⟩ : ByteArray) ++ t).size ≤ 2000001 := by omega
  have c6 : (⟨#[45]⟩ : ByteArray).size = 1 := rfl
  have c7 : (⟨#[45]⟩ : ByteArray).size + (s ++ ((⟨#[47]⟩ : ByteArray) ++ t)).size ≤ 2000002 := by rw [ByteArray.size_append]; omega
  clear hb3 hB k2 b0
  cases p
  · go_wp2_with fail
    go_ret
    exact ⟨rfl, hbZ⟩
  · go_wp2_with fail
    go_ret
    exact ⟨rfl, hbZ⟩
end Go.Proofs.YtoeknkakdoemfaaGreatDoor
