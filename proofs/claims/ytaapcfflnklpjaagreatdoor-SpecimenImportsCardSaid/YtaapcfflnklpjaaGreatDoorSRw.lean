/- The reference's words. -/
import Derived.Test.YtaapcfflnklpjaaGreatDoorSRs
import Derived.Test.YtaapcfflnklpjaaGreatDoorSX
import Derived.Test.YtaapcfflnklpjaaGreatDoorSK
import Derived.Test.YtaapcfflnklpjaaGreatDoorSU
import Derived.IntWalk
import Derived.BigRegion
namespace Go.Proofs.YtaapcfflnklpjaaGreatDoor
open Go Go.RowKit Go.Lib
theorem infoT : (Tryz.prog.info? 9).map (fun i => (i.zero, i.size, i.bytes)) = some (some (.string ⟨#[]⟩), 1, 16) := by kernel_rfl
def OwnT (w : World) (base g n c : Nat) (us : List ByteArray) : Prop := w.ownsRow base 9 1 (.slice (some ⟨g, 0, none⟩) n c) n (us.map Value.string)
theorem OwnT.at_ {w : World} {base g n c : Nat} {us : List ByteArray} (h : OwnT w base g n c us) {j : Nat} {u : ByteArray} (hu : us[j]? = some u) (hj : j < n) : w.cell? ⟨g, j, none⟩ = some (.string u) := by
  rw [World.ownsRow.cellAt h j (by omega), List.getElem?_map, hu]
  rfl
theorem OwnT.one {w : World} {base : Nat} (hb : base ≤ w.heap.size) (u : ByteArray) : OwnT (w.alloc (.cells #[.string u] 9)) base w.heap.size 1 1 [u] :=
  ⟨rfl, .inr ⟨w.heap.size, 1, #[.string u], rfl, hb, heap_alloc_new w _, Nat.le_refl _, by unfold maxLen; omega, rfl, rfl⟩⟩
theorem own_pos9 {w : World} {base size n : Nat} {e : TypeId} {v : Value} {xs : List Value} (h : w.ownsRow base e size v n xs) (hn : 0 < n) : ∃ g c, v = .slice (some ⟨g, 0, none⟩) n c ∧ base ≤ g := by
  rcases h.2 with ⟨_, hl⟩ | ⟨g, c, cur, e, hb, _⟩
  · omega
  · exact ⟨g, c, e, hb⟩
theorem set_last (done : List ByteArray) (cur x : ByteArray) : ((done ++ [cur]).map Value.string).set done.length (.string x) = (done ++ [x]).map Value.string := by
  rw [List.map_append, List.map_append, List.set_append_right _ _ (by rw [List.length_map]; exact Nat.le_refl _), List.length_map, Nat.sub_self]
  rfl
/-- the words of a string lie in a row -/
def WS (w : World) (g n : Nat) (us : List ByteArray) : Prop := us.length = n ∧ g < w.heap.size ∧ ∀ (j : Nat) (u : ByteArray), us[j]? = some u → w.cell? ⟨g, j, none⟩ = some (.string u)
def GivesW (s : ByteArray) (w : World) (e : Ending) (w' : World) : Prop :=
  ∃ g n c us, e = .returned (.slice (some ⟨g, 0, none⟩) n c) ∧ WS w' g n us ∧ us.map (fun u => u.data.toList) = wordsL s.data.toList ∧ (∀ u ∈ us, u.size ≤ s.size) ∧ Below w.heap.size w w'
theorem wordsF_sp (cur l : List UInt8) (c : UInt8) (h : c.toNat = 32) : wordsF cur (c :: l) = cur :: wordsF [] l := by
  have : c = 32 := UInt8.toNat_inj.1 h
  conv => lhs; unfold wordsF
  rw [if_pos this]
theorem wordsF_ne (cur l : List UInt8) (c : UInt8) (h : c.toNat ≠ 32) : wordsF cur (c :: l) = wordsF (cur ++ [c]) l := by
  have : ¬ c = 32 := fun e => h (by rw [e]; rfl)
  conv => lhs; unfold wordsF
  rw [if_neg this]
theorem ext_one (s : ByteArray) (m : Nat) (h : m < s.size) : (s.extract m (m + 1)).data.toList = [s[m]] := by
  have e : (s.extract m (m + 1)).data.toList = (s.data.toList.take (m + 1)).drop m := by
    rw [ByteArray.data_extract, Array.toList_extract, List.extract_eq_take_drop, List.drop_take]
  rw [e, List.drop_take, drop_atB (at_some s m h)]
  simp
set_option maxHeartbeats 4000000 in
theorem words_any (s : ByteArray) (w : World) (hs : s.size ≤ 4200) :
    Calls Tryz.prog 53 #[.string s] w (GivesW s w) := by
  go_enter Tryz.func53, Tryz.ntmps53
  have HO0 := hide (OwnT.one (w := w) (Nat.le_refl _) ⟨#[]⟩)
  obtain ⟨i0, hi, hz0, hz1, hz2⟩ := info_parts infoT
  have Hz0 := hide hz0
  have Hz1 := hide hz1
  have Hz2 := hide hz2
  have Hi := hide hi
  clear hz0 hz1 hz2 hi
  go_wp2_with fail
  go_loopw [3, 4] (fun v a wr => ∃ (g q c m : Nat) (done : List ByteArray) (cur : ByteArray), v = .slice (some ⟨g, 0, none⟩) q c ∧ a = .int .i64 (m : Int) ∧ m ≤ s.size ∧ 1 ≤ q ∧ q ≤ m + 1 ∧ w.heap.size ≤ g ∧ Hid (q = done.length + 1) ∧ Hid (cur.size ≤ m ∧ ∀ u ∈ done, u.size ≤ s.size) ∧ Hid (done.map (fun u => u.data.toList) ++ wordsF cur.data.toList (s.data.toList.drop m) = wordsL s.data.toList) ∧ Hid (OwnT wr w.heap.size g q c (done ++ [cur])) ∧ Hid (Below w.heap.size w wr)) (fun _ a _ => s.size - (RowKit.intOf a).toNat)
  case atStart => exact ⟨w.heap.size, 1, 1, 0, [], ⟨#[]⟩, rfl, rfl, Nat.zero_le _, Nat.le_refl _, Nat.le_refl _, Nat.le_refl _, hide rfl, hide ⟨Nat.le_refl _, fun u hu => by cases hu⟩, hide rfl, HO0, hide ((Below.refl _ _).alloc (Nat.le_refl _) _)⟩
  case round =>
    clear HO0
    obtain ⟨g, q, c, m, done, cur, rfl, rfl, hm, hq1, hq2, hg, HQ, HZ, HV, HO, HB⟩ := hrel
    by_cases hlt : m < s.size
    · have d1 : decide ((m : Int) < (s.size : Int)) = true := decide_eq_true (by omega)
      have i1 : (0 : Int) ≤ (m : Int) := by omega
      have HD := hide (show done.map (fun u => u.data.toList) ++ wordsF cur.data.toList (s[m] :: s.data.toList.drop (m + 1)) = wordsL s.data.toList from by rw [← drop_atB (at_some s m hlt)]; exact HV.out)
      clear HV
      by_cases hc : s[m].toNat = 32
      · have c1 : ((s[m].toNat : Int) == 32) = true := beq_iff_eq.2 (by omega)
        have HN := hide (show (done ++ [cur]).map (fun u => u.data.toList) ++ wordsF (⟨#[]⟩ : ByteArray).data.toList (s.data.toList.drop (m + 1)) = wordsL s.data.toList by
          have h := HD.out
          rw [wordsF_sp _ _ _ hc] at h
          rw [List.map_append, List.append_assoc]
          exact h)
        have hsz := HB.out.size
        clear hc HD
        go_wp2_with (at_builtin; refine wpList_append_own _ rfl _ _ 60 rfl w.heap.size 9 i0 _ 1 16 Tryz.underlying60 Hi.out Hz0.out Hz1.out Hz2.out rfl (by decide) _ q ((done ++ [cur]).map Value.string) rfl (own_keep9 HO.out ((Below.refl _ _).alloc (Nat.le_refl _) _)) _ 1 1 [.string ⟨#[]⟩] rfl rfl ?p1 ?p2 ?p3 ?p4 ?p5 ?_)
        case p2 => rfl
        case p3 => unfold maxLen; omega
        case p4 => omega
        case p5 => first | omega | (simp; omega)
        intro v' w9 ho9 hgr9 _
        obtain ⟨g9, c9, rfl, hg9⟩ := own_pos9 ho9 (by omega)
        have HO9 := hide ho9
        have HG9 := hide hgr9
        clear ho9 hgr9
        go_wp2_with fail
        go_roundw
        case rel =>
          refine ⟨g9, q + 1, c9, m + 1, done ++ [cur], ⟨#[]⟩, rfl, by go_num, by omega, by omega, by omega, hg9, hide ?_, hide ⟨Nat.zero_le _, fun u hu => ?_⟩, HN, hide ?_, hide ?_⟩
          · rw [List.length_append, HQ.out]; rfl
          · rcases List.mem_append.1 hu with h | h
            · exact HZ.out.2 u h
            · rw [List.mem_singleton] at h
              rw [h]
              exact Nat.le_trans HZ.out.1 (by omega)
          · unfold OwnT
            have h := HO9.out
            simpa using h
          · exact own_below (HB.out.alloc HB.out.size _) HG9.out (by simp; omega) (own_keep9 HO.out ((Below.refl _ _).alloc (Nat.le_refl _) _)) (Nat.le_refl _)
        case measure => simp [RowKit.intOf]; omega
      · have c1 : ((s[m].toNat : Int) == 32) = false := beq_eq_false_iff_ne.2 (by omega)
        obtain ⟨X, hX⟩ : ∃ X, s.extract m (m + 1) = X := ⟨_, rfl⟩
        have hXd : X.data.toList = [s[m]] := by rw [← hX]; exact ext_one s m hlt
        have hXz : X.size = 1 := by rw [Lib.size_eq, hXd]; rfl
        have HN := hide (show done.map (fun u => u.data.toList) ++ wordsF (cur ++ X).data.toList (s.data.toList.drop (m + 1)) = wordsL s.data.toList by
          have h := HD.out
          rw [wordsF_ne _ _ _ hc] at h
          rw [show (cur ++ X).data.toList = cur.data.toList ++ X.data.toList by simp, hXd]
          exact h)
        have A1 := fun (W : World) => add_run cur X (by have := HZ.out.1; omega) W
        have HXZ := hide (show (cur ++ X).size ≤ m + 1 by rw [ByteArray.size_append, hXz]; have := HZ.out.1; omega)
        have k0 := OwnT.at_ HO.out (j := q - 1) (u := cur) (by rw [HQ.out]; simp) (by omega)
        have f0 := World.ownsRow.frozenAt HO.out (q - 1)
        have hgw : g < wr.heap.size := (World.ownsRow.lt HO.out g rfl).2
        have w1 : IntKind.i64.wrap ((m : Int) + 1) = (m : Int) + 1 := IntWalk.i64_in _ (by omega)
        have w2 : IntKind.i64.wrap ((q : Int) - 1) = (q : Int) - 1 := IntWalk.i64_in _ (by omega)
        have i2 : (0 : Int) ≤ (q : Int) - 1 := by omega
        have i3 : (q : Int) - 1 < (q : Int) := by omega
        have i4 : ((q : Int) - 1).toNat = q - 1 := by omega
        have i5 : (m : Int) + 1 ≤ (s.size : Int) := by omega
        have i6 : (m : Int) ≤ (m : Int) + 1 := by omega
        have i7 : ((m : Int) + 1).toNat = m + 1 := by omega
        clear hc HD hXd hXz
        obtain ⟨W, hW⟩ : ∃ x, x = wr := ⟨_, rfl⟩
        subst hW
        go_wp2_with fail
        go_region
        all_goals
          go_wp2_with fail
          go_roundw
          case rel =>
            have hO := (World.ownsRow.stored HO.out (q - 1) (.string (cur ++ X))).1
            have hq := HQ.out
            refine ⟨g, q, c, m + 1, done, cur ++ X, rfl, by go_num, by omega, by omega, by omega, hg, HQ, hide ⟨HXZ.out, HZ.out.2⟩, HN, hide ?_, hide ?_⟩
            · unfold OwnT
              rw [← set_last done cur (cur ++ X), show done.length = q - 1 by omega]
              exact own_keep9 hO ((Below.refl _ _).drew)
            · exact (HB.out.setCell hg _).drew
          case measure => simp [RowKit.intOf]; omega
    · obtain rfl : m = s.size := by omega
      have d1 : decide ((s.size : Int) < (s.size : Int)) = false := decide_eq_false (by omega)
      have HE := hide (show (done ++ [cur]).map (fun u => u.data.toList) = wordsL s.data.toList by
        have h := HV.out
        rw [List.drop_of_length_le (by rw [← Lib.size_eq]; exact Nat.le_refl _)] at h
        rw [List.map_append]
        exact h)
      clear HV
      go_wp2_with fail
      go_ret
      refine ⟨g, q, c, done ++ [cur], rfl, ⟨by rw [List.length_append, HQ.out]; rfl, (World.ownsRow.lt HO.out g rfl).2, fun j u hu => OwnT.at_ HO.out hu (by have := (List.getElem?_eq_some_iff.1 hu).1; rw [List.length_append] at this; rw [HQ.out]; exact this)⟩, HE.out, fun u hu => ?_, HB.out⟩
      rcases List.mem_append.1 hu with h | h
      · exact HZ.out.2 u h
      · rw [List.mem_singleton] at h
        rw [h]
        exact HZ.out.1
end Go.Proofs.YtaapcfflnklpjaaGreatDoor
