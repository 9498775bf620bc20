/- Whether bytes are the same. -/
import Derived.Test.YtjmpnpflmdpdkaaFNum
import Derived.Laws.Cells
import Derived.Lib.Bytes
namespace Go.Proofs.Ytjmpnpflmdpdkaa
open Go Go.RowKit FM

def bs (xs : List Nat) : ByteArray := (xs.map fun x : Nat => (x : Int)).foldl (fun r n => r.push (UInt8.ofNat n.toNat)) ByteArray.empty
theorem bs_list (xs : List Nat) : ∀ s : ByteArray, ((xs.map fun x : Nat => (x : Int)).foldl (fun r n => r.push (UInt8.ofNat n.toNat)) s).data.toList = s.data.toList ++ xs.map UInt8.ofNat := by
  induction xs with
  | nil => intro s; simp
  | cons x xs ih =>
    intro s
    rw [List.map_cons, List.foldl_cons, ih]
    simp [ByteArray.push]
theorem bs_inj {xs ys : List Nat} (hx : By xs) (hy : By ys) (h : bs xs = bs ys) : xs = ys := by
  have h1 := bs_list xs ByteArray.empty
  have h2 := bs_list ys ByteArray.empty
  have h3 : xs.map UInt8.ofNat = ys.map UInt8.ofNat := by
    have e : (bs xs).data.toList = (bs ys).data.toList := by rw [h]
    have e1 : (bs xs).data.toList = xs.map UInt8.ofNat := by unfold bs; rw [h1]; simp
    have e2 : (bs ys).data.toList = ys.map UInt8.ofNat := by unfold bs; rw [h2]; simp
    rw [← e1, ← e2, e]
  have key : ∀ l : List Nat, By l → (l.map UInt8.ofNat).map (fun u => u.toNat) = l := by
    intro l hl
    induction l with
    | nil => rfl
    | cons a l ih =>
      have ha := hl a (by simp)
      simp only [List.map_cons]
      rw [ih (fun z hz => hl z (by simp [hz]))]
      congr 1
      simp
      omega
  rw [← key xs hx, ← key ys hy, h3]
theorem run_text (w : World) (A : Option Addr) (n c : Nat) (xs : List Nat) (h : BR w A n xs) : (convert 31 9 (.slice A n c)).run Try.prog w = .ok (.string (bs xs)) w := by
  rw [run_convert_bytes_string w 31 9 5 A n c Try.underlying31 Try.underlying5 Try.underlying9]
  rcases Nat.eq_zero_or_pos n with hn | hn
  · subst hn
    have e : xs = [] := List.eq_nil_of_length_eq_zero h.len
    subst e
    cases A with
    | none => simp [Conv.bytesToString, Sem.run_pure]; rfl
    | some a =>
      have h2 := run_loadCells_list (P := Try.prog) (w := w) a ([] : List Value) (fun j v e => by simp at e)
      exact run_bytesToString w a 0 c [] h2
  · obtain ⟨b, o, e, hc⟩ := h.1.2 hn
    subst e
    have h2 := run_loadCells_list (P := Try.prog) (w := w) ⟨b, o, none⟩ ((xs.map fun x : Nat => (x : Int)).map (Value.int .u8)) (fun j v e => by
      rw [List.getElem?_map, List.getElem?_map] at e
      obtain ⟨y, hy, rfl⟩ := Option.map_eq_some_iff.1 e
      obtain ⟨x, hx, rfl⟩ := Option.map_eq_some_iff.1 hy
      have ea : (⟨b, o, none⟩ : Addr).add j = ⟨b, o + j, none⟩ := by unfold Addr.add; split <;> simp_all
      rw [ea]
      exact hc j x hx)
    have hl : ((xs.map fun x : Nat => (x : Int)).map (Value.int .u8)).length = n := by simp [h.len]
    rw [hl] at h2
    exact run_bytesToString w ⟨b, o, none⟩ n c (xs.map fun x : Nat => (x : Int)) h2
theorem bs_dec {xs ys : List Nat} (hx : By xs) (hy : By ys) : ((bs xs).toList == (bs ys).toList) = decide (xs = ys) := by
  by_cases h : xs = ys
  · subst h; simp
  · rw [decide_eq_false h]
    refine beq_eq_false_iff_ne.2 fun e => h (bs_inj hx hy ?_)
    rw [Lib.toList_data, Lib.toList_data] at e
    exact ByteArray.ext (Array.toList_inj.1 e)
set_option maxHeartbeats 1000000 in
theorem bytes_any (A : Option Addr) (n c : Nat) (xs : List Nat) (A' : Option Addr) (m d : Nat) (ys : List Nat) (w : World) (hx : BR w A n xs) (hy : BR w A' m ys) (r : Bool) (hr : decide (xs = ys) = r) :
    Calls Try.prog 22 #[.slice A n c, .slice A' m d] w fun e w' => e = .returned (.bool r) ∧ w = w' := by
  have c1 := run_text w A n c xs hx
  have c2 := run_text w A' m d ys hy
  have HD := hide ((bs_dec hx.2 hy.2).trans hr)
  clear hx hy hr
  generalize bs xs = S at *
  generalize bs ys = T at *
  go_enter Try.func22, Try.ntmps22
  go_wp2_with fail
  go_ret
  exact ⟨ret_bool HD.out, rfl⟩
end Go.Proofs.Ytjmpnpflmdpdkaa
