/- The reference's Parse. -/
import Derived.Test.YtihadabaehcmiaaDoorYRDig
import Derived.Test.YtihadabaehcmiaaDoorYRTxt
namespace Go.Proofs.YtihadabaehcmiaaDoor
open Go Go.RowKit Go.Lib

/-- a candidate that the reference takes -/
def okC (s : ByteArray) (x y : Int) : Bool := yB x y && decide (txt x y = s)
theorem okC_true {s : ByteArray} {x y : Int} (h : okC s x y = true) : yB x y = true ∧ txt x y = s := by
  unfold okC at h
  rw [Bool.and_eq_true] at h
  exact ⟨h.1, of_decide_eq_true h.2⟩
theorem okC_of {s : ByteArray} {x y : Int} (h : yB x y = true) (e : txt x y = s) : okC s x y = true := by
  unfold okC
  rw [h, Bool.true_and]
  exact decide_eq_true e
theorem txt_list {s : ByteArray} {x y : Int} (h : yB x y = true) (e : txt x y = s) : s.data.toList = textL x y := by
  have t : txt x y = strB (textL x y) := by unfold txt; rw [if_pos h]
  rw [← e, t, data_strB]
theorem ref_hit {s : ByteArray} {x y : Int} (h : okC s x y = true) : prs s.data.toList = (x, y, 0) := by
  obtain ⟨h1, h2⟩ := okC_true h
  unfold prs
  rw [txt_list h1 h2, parse_text x y h1]
theorem parseL_nil : parseL [] = none := by
  have h : yearL (too []) = none := by rfl
  unfold parseL
  rw [h]
theorem parseL_ok {s : ByteArray} {x y : Int} (h : parseL s.data.toList = some (x, y)) : yB x y = true ∧ txt x y = s := by
  have h0 := h
  unfold parseL at h
  split at h
  · cases h
  · split at h
    · cases h
    · split at h
      · rename_i b hb _ a ha e
        injection h with h
        injection h with h1 h2
        subst h1
        subst h2
        rw [txt_eq] at e
        refine ⟨?_, e⟩
        rcases Bool.eq_false_or_eq_true (yB a b) with hy | hy
        · exact hy
        · exfalso
          have t : txt a b = ⟨#[]⟩ := by unfold txt; rw [hy]; rfl
          have hl : s.data.toList = [] := by rw [← e, t]
          rw [hl] at h0
          rw [parseL_nil] at h0
          cases h0
      · cases h
theorem ref_none {s : ByteArray} {a b : Int} (ha : (numA s.data.toList : Int) = a) (hb : (numB s.data.toList : Int) = b) (h1 : okC s a b = false) (h2 : okC s a (1 - b) = false) (h3 : okC s (1 - a) b = false) (h4 : okC s (1 - a) (1 - b) = false) : prs s.data.toList = (0, 0, 3) := by
  rcases h : parseL s.data.toList with _ | ⟨x, y⟩
  · unfold prs
    rw [h]
  · exfalso
    obtain ⟨hy, e⟩ := parseL_ok h
    have hc := cand_text x y hy
    rw [← txt_list hy e, ha, hb] at hc
    have ok := okC_of hy e
    obtain ⟨rfl | rfl, rfl | rfl⟩ := hc
    · rw [ok] at h1; cases h1
    · rw [ok] at h2; cases h2
    · rw [ok] at h3; cases h3
    · rw [ok] at h4; cases h4

end Go.Proofs.YtihadabaehcmiaaDoor
