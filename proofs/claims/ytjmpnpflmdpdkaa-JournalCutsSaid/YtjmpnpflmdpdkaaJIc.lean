/- The program's journal: Append. -/
import Derived.Test.YtjmpnpflmdpdkaaJIb
namespace Go.Proofs.Ytjmpnpflmdpdkaa
open Go Go.RowKit FM

theorem append_nil (k : Int) (A : Option Addr) (n c : Nat) (w : World) : Calls Try.prog 14 #[.pointer none, .int .u8 k, .slice A n c] w fun e w' => e = .returned (.int .i64 1) ∧ w = w' := by
  go_enter Try.func14, Try.ntmps14
  go_wp2_with fail
  go_ret
  exact ⟨rfl, rfl⟩
/-- what an append does -/
def Puts (w : World) (B : Nat) (F : Nat → Prop) (p : Nat) (es : List Ent) (k : Nat) (d : List Nat) (J : World → Nat → (Nat → Prop) → Nat → List Ent → Prop) (e : Ending) (w' : World) : Prop :=
  e = .returned (.int .i64 (apE es d : Int)) ∧ J w' B (Plus F w w') p (apL es k d) ∧ Turn F w w'
theorem jn_next {w w1 w2 : World} {B p : Nat} {F : Nat → Prop} {es : List Ent} (h : JN w2 B (Plus F w1 w2) p es) (hB : B ≤ w.heap.size) (h1 : Below w.heap.size w w1) : JN w2 B (Plus F w w2) p es := by
  have hr := h.rng
  refine h.mono (fun k hk => ?_) (fun k hk => ?_)
  · rcases hk with hk | hk
    · exact .inl hk
    · exact .inr (by have := h1.size; omega)
  · rcases hk with hk | hk
    · exact hr k (.inl hk)
    · omega
theorem jn_plus {w w1 : World} {B p : Nat} {F : Nat → Prop} {es : List Ent} (h : JN w B F p es) (hB : B ≤ w.heap.size) (h1 : Below w.heap.size w w1) : JN w1 B (Plus F w w1) p es := by
  have hr := h.rng
  refine (h.below h1).mono (fun k hk => .inl hk) (fun k hk => ?_)
  have := h1.size
  rcases hk with hk | hk
  · have := hr k hk; omega
  · omega
theorem putc_full (p B : Nat) (F : Nat → Prop) (es : List Ent) (w : World) (h : JN w B F p es) (hB : B ≤ w.heap.size) (k : Nat) (A1 : Option Addr) (n1 c1 : Nat) (d : List Nat) (hd : BR w A1 n1 d) (hn : n1 ≤ maxLen) (hf : 8192 < n1) :
    Calls Try.prog 14 #[.pointer (some ⟨p, 0, none⟩), .int .u8 (k : Int), .slice A1 n1 c1] w (Puts w B F p es k d JN) := by
  have hE : apE es d = 6 := apE_no (.inl (by rw [hd.len]; omega))
  have R := hide (jn_plus h hB (Below.refl _ _))
  clear h hd
  go_enter Try.func14, Try.ntmps14
  go_wp2_with fail
  (with_reducible refine (seal_full (k : Int) A1 n1 c1 _ hn hf).mono ?_)
  rintro e w' ⟨rfl, rfl⟩
  go_wp2_with fail
  go_ret
  exact ⟨by rw [hE]; rfl, by rw [apL_no (by omega)]; exact R.out, Turn.refl _ _⟩
set_option maxHeartbeats 1000000 in
theorem putc_any (p B : Nat) (F : Nat → Prop) (es : List Ent) (w : World) (h : JN w B F p es) (hB : B ≤ w.heap.size) (k : Nat) (hk : k < 256) (A1 : Option Addr) (n1 c1 : Nat) (d : List Nat) (hd : BR w A1 n1 d) (hn : n1 ≤ maxLen) :
    Calls Try.prog 14 #[.pointer (some ⟨p, 0, none⟩), .int .u8 (k : Int), .slice A1 n1 c1] w (Puts w B F p es k d JN) := by
  by_cases hf : 8192 < n1
  · exact putc_full p B F es w h hB k A1 n1 c1 d hd hn hf
  have hdl := hd.len
  have hj10 := h.ok.2
  have HJ := hide h
  have HD := hide hd
  have HDB := hide hd.2
  have HK := hide hk
  obtain ⟨A, n, c, A', m, c', h1, h2, h3, h4, h5, h6, h7, h8, h9, h10⟩ := h
  have KP : Hid (∀ w', Below w.heap.size w w' → w'.cell? ⟨p, 0, none⟩ = some (.slice A n c)) := fun w' hb => (h1.below' hb).at_ 0
  have hnn := h4.len
  clear h1 h2 h3 h4 h5 h6 h7 h8 h9 h10 hd hk
  have hn8 : n1 ≤ 8192 := by omega
  clear hf hn
  go_enter Try.func14, Try.ntmps14
  go_wp2_with fail
  (with_reducible refine (seal_any k A1 n1 c1 d _ HD.out HK.out hn8 _ rfl).mono ?_)
  rintro e w1 ⟨A2, c2, rfl, hr, hb⟩
  have HR := hide hr
  have HB := hide hb
  have hsz := hb.size
  have k0 := KP.out _ hb
  clear hr hb KP
  by_cases hl : 65536 < n + (n1 + 9)
  · have hE : apE es d = 6 := apE_no (.inr (by rw [hnn, hdl]; omega))
    have d1 : decide ((65536 : Int) < (n : Int) + ((n1 : Int) + 9)) = true := decide_eq_true (by omega)
    have R := hide (jn_plus HJ.out hB HB.out)
    go_wp2_with fail
    go_ret
    exact ⟨by rw [hE]; rfl, by rw [apL_no (by omega)]; exact R.out, Turn.of HB.out⟩
  · have hE : apE es d = 0 := apE_ok (by omega) (by rw [hnn, hdl]; omega)
    have d1 : decide ((65536 : Int) < (n : Int) + ((n1 : Int) + 9)) = false := decide_eq_false (by omega)
    have hle : (jb es).length + d.length + 9 ≤ 65536 := by omega
    have hB1 : B ≤ w1.heap.size := by omega
    have hd8 : d.length ≤ 8192 := by omega
    clear hnn hdl
    go_wp2_with fail
    (with_reducible refine (add_any p B F es _ (HJ.out.below HB.out) hB1 A2 (n1 + 9) c2 k d (RB.br HR.out (frame_by HK.out HDB.out)) HK.out HDB.out hd8 hle).mono ?_)
    rintro e w2 ⟨rfl, hj, ht⟩
    have R := hide (jn_next hj hB HB.out)
    have T := hide ((Turn.of (F := F) HB.out).trans ht)
    clear hj ht
    go_wp2_with fail
    go_ret
    exact ⟨by rw [hE]; rfl, by rw [apL_ok hE]; exact R.out, T.out⟩
end Go.Proofs.Ytjmpnpflmdpdkaa
