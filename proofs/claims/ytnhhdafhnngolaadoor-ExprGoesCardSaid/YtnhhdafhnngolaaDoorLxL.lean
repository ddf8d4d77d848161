/-
  CONTRACTS OF 'lex.Live', 'lex.Bad', 'blazonref06.Live', 'blazonref06.Same'.
-/
import Derived.Test.YtnhhdafhnngolaaDoorLxA
import Derived.BigRegion
namespace Go.Proofs.YtnhhdafhnngolaaDoor
set_option linter.unusedVariables false
set_option linter.unusedSimpArgs false
open Go.RowKit

theorem take_snocT (L : List Tk) (k : Nat) (t : Tk) (h : L[k]? = some t) : L.take (k + 1) = L.take k ++ [t] := by
  obtain ⟨hlt, rfl⟩ := List.getElem?_eq_some_iff.1 h
  rw [List.take_succ_eq_append_getElem hlt]
theorem filter_yes {L : List Tk} {k : Nat} {t : Tk} (h : L[k]? = some t) (hv : lv t = true) : (L.take (k + 1)).filter lv = (L.take k).filter lv ++ [t] := by
  rw [take_snocT L k t h, List.filter_append]; simp [hv]
theorem filter_no {L : List Tk} {k : Nat} {t : Tk} (h : L[k]? = some t) (hv : lv t = false) : (L.take (k + 1)).filter lv = (L.take k).filter lv := by
  rw [take_snocT L k t h, List.filter_append]; simp [hv]

set_option maxRecDepth 10000 in
set_option maxHeartbeats 1600000 in
theorem live_any (A : Option Addr) (n c : Nat) (L : List Tk) (w : World) (hx : ShT w w.heap.size A n L) (hn : n ≤ 1000000) :
    Calls Tryd.prog 50 #[.slice A n c] w (ToksTo (L.filter lv) w) := by
  have hl : L.length = n := hx.1
  have HL := Lib.hid hl
  have HX := Lib.hid hx
  have hz := zeroTok
  clear hl hx
  go_enter Tryd.func50, Tryd.ntmps50
  go_wp2
  go_loopw [3, 8] (fun v i wr => ∃ k : Nat, i = .int .i64 (k : Int) ∧ k ≤ n ∧ Own wr w.heap.size 49 3 v ((L.take k).filter lv).length (tcs ((L.take k).filter lv)) ∧ Below w.heap.size w wr) (fun _ i _ => n - (intOf i).toNat)
  case atStart => exact ⟨0, rfl, Nat.zero_le _, Own.nil _ _ _ _ (Nat.le_refl _), Below.refl _ _⟩
  case round =>
    obtain ⟨k, rfl, hk, ho, hb⟩ := hrel
    have HO := Lib.hid ho
    have HB := Lib.hid hb
    have hge := ho.2
    clear ho hb
    by_cases hlt : k < n
    · obtain ⟨b, off, t, rfl, hbb, ht, c0, c1, c2⟩ := (HX.out.up HB.out (Nat.le_refl _)).at hlt
      obtain ⟨x, y, z⟩ := t
      dsimp only at c0 c1 c2
      have HT := Lib.hid ht
      have hlen : ((L.take k).filter lv).length ≤ n := Nat.le_trans (List.length_filter_le _ _) (by simp; omega)
      have HLEN := Lib.hid hlen
      clear ht hlen
      cases hv : lv (x, y, z) with
      | true =>
        have HF := Lib.hid (filter_yes HT.out hv)
        have hv' : (x != 0) = true ∧ (x != 1) = true := by simpa [lv] using hv
        obtain ⟨h0, h1⟩ := hv'
        clear hv
        go_wp2_with (first
          | (at_builtin; refine wpList_push_g rfl (.tmp 20) (.tmp 22) 37 rfl rowTok _ w.heap.size _ _ _ [.int .i64 x, .int .i64 y, .int .i64 z] rfl (HO.out.alloc _) rfl (by simp) rfl (by intro z hz; simp at hz; rcases hz with rfl | rfl | rfl <;> rfl) (by have := HLEN.out; omega) (by omega) ?_; intro v2 w2 ho2 hg2)
          | fail)
        go_roundw
        case rel =>
          refine ⟨k + 1, by go_num, by omega, ?_, ?_⟩
          · rw [HF.out]
            exact ho2.cast (by simp) (tcs_snoc _ (x, y, z)).symm
          · have b3 : Below w.heap.size w ((wr.alloc (.cells #[.int .i64 x, .int .i64 y, .int .i64 z] 49)).alloc (.cells #[.int .i64 x, .int .i64 y, .int .i64 z] 49)) := (HB.out.alloc hge _).alloc (by simp; omega) _
            exact b3.grown hg2 (by simp; omega) (fun q hq => (HO.out.1.lt q hq).1)
        case measure => simp [intOf]; omega
      | false =>
        have HF := Lib.hid (filter_no HT.out hv)
        have hv' : (x != 0) = false ∨ ((x != 0) = true ∧ (x != 1) = false) := by
          simp only [lv, Bool.and_eq_false_iff] at hv
          rcases hv with h | h
          · exact .inl h
          · cases h0 : (x != 0)
            · exact .inl rfl
            · exact .inr ⟨rfl, h⟩
        clear hv
        rcases hv' with h0 | ⟨h0, h1⟩
        all_goals
          go_wp2
          go_roundw
          case rel =>
            refine ⟨k + 1, by go_num, by omega, ?_, HB.out.alloc hge _⟩
            rw [HF.out]
            exact HO.out.alloc _
          case measure => simp [intOf]; omega
    · obtain rfl : k = n := by omega
      go_wp2
      go_ret
      refine ⟨_, rfl, ?_, HB.out⟩
      have := HO.out
      rwa [List.take_of_length_le (by rw [HL.out]; exact Nat.le_refl _)] at this

set_option maxRecDepth 10000 in
set_option maxHeartbeats 1600000 in
theorem rlive_any (A : Option Addr) (n c : Nat) (L : List Tk) (w : World) (hx : ShT w w.heap.size A n L) (hn : n ≤ 1000000) :
    Calls Tryd.prog 48 #[.slice A n c] w (ToksTo (L.filter lv) w) := by
  have hl : L.length = n := hx.1
  have HL := Lib.hid hl
  have HX := Lib.hid hx
  have hz := zeroTok
  clear hl hx
  go_enter Tryd.func48, Tryd.ntmps48
  go_wp2
  go_loopw [3, 4] (fun v i wr => ∃ k : Nat, i = .int .i64 (k : Int) ∧ k ≤ n ∧ Own wr w.heap.size 49 3 v ((L.take k).filter lv).length (tcs ((L.take k).filter lv)) ∧ Below w.heap.size w wr) (fun _ i _ => n - (intOf i).toNat)
  case atStart => exact ⟨0, rfl, Nat.zero_le _, Own.nil _ _ _ _ (Nat.le_refl _), Below.refl _ _⟩
  case round =>
    obtain ⟨k, rfl, hk, ho, hb⟩ := hrel
    have HO := Lib.hid ho
    have HB := Lib.hid hb
    have hge := ho.2
    clear ho hb
    by_cases hlt : k < n
    · obtain ⟨b, off, t, rfl, hbb, ht, c0, c1, c2⟩ := (HX.out.up HB.out (Nat.le_refl _)).at hlt
      obtain ⟨x, y, z⟩ := t
      dsimp only at c0 c1 c2
      have HT := Lib.hid ht
      have hlen : ((L.take k).filter lv).length ≤ n := Nat.le_trans (List.length_filter_le _ _) (by simp; omega)
      have HLEN := Lib.hid hlen
      clear ht hlen
      cases hv : lv (x, y, z) with
      | true =>
        have HF := Lib.hid (filter_yes HT.out hv)
        have hv' : 1 < x ∨ (¬ 1 < x ∧ x < 0) := by
          simp only [lv, Bool.and_eq_true, bne_iff_ne, ne_eq] at hv
          omega
        clear hv
        rcases hv' with h0 | ⟨h0, h1⟩
        all_goals
          go_wp2_with (first
            | (at_builtin; refine wpList_push_g rfl (.tmp 25) (.tmp 30) 37 rfl rowTok _ w.heap.size _ _ _ [.int .i64 x, .int .i64 y, .int .i64 z] rfl HO.out rfl (by simp) rfl (by intro z hz; simp at hz; rcases hz with rfl | rfl | rfl <;> rfl) (by have := HLEN.out; omega) (by omega) ?_; intro v2 w2 ho2 hg2)
            | fail)
          go_roundw
          case rel =>
            refine ⟨k + 1, by go_num, by omega, ?_, ?_⟩
            · rw [HF.out]
              exact ho2.cast (by simp) (tcs_snoc _ (x, y, z)).symm
            · exact (HB.out.alloc hge _).grown hg2 (by simp; omega) (fun q hq => (HO.out.1.lt q hq).1)
          case measure => simp [intOf]; omega
      | false =>
        have HF := Lib.hid (filter_no HT.out hv)
        have hv' : ¬ 1 < x ∧ ¬ x < 0 := by
          have : ¬ (x ≠ 0 ∧ x ≠ 1) := fun h => by
            simp [lv, h.1, h.2] at hv
          omega
        obtain ⟨h0, h1⟩ := hv'
        clear hv
        go_wp2
        go_roundw
        case rel =>
          refine ⟨k + 1, by go_num, by omega, ?_, HB.out⟩
          rw [HF.out]
          exact HO.out
        case measure => simp [intOf]; omega
    · obtain rfl : k = n := by omega
      go_wp2
      go_ret
      refine ⟨_, rfl, ?_, HB.out⟩
      have := HO.out
      rwa [List.take_of_length_le (by rw [HL.out]; exact Nat.le_refl _)] at this
end Go.Proofs.YtnhhdafhnngolaaDoor
