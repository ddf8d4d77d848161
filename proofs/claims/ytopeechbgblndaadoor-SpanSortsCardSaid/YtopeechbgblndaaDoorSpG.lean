/-
  CONTRACTS OF 'blazonref07.Great', 'blazonref07.Same'.
-/
import Derived.Test.YtopeechbgblndaaDoorSpC
import Derived.BigRegion
import Derived.Deep.RegionHeld3
import Derived.Deep.RegionWith
namespace Go.Proofs.YtopeechbgblndaaDoor
set_option linter.unusedVariables false
set_option linter.unusedSimpArgs false
open Go.RowKit

/-- Is there more than is looked at? -/
def greatB (L : List Ed) : Bool := (L.take 600).any (fun x => decide (200 < x.2.2.length)) || decide (600 < L.length)
theorem great_no {L : List Ed} (h : greatB L = false) : L.length ≤ 600 ∧ ∀ x ∈ L, x.2.2.length ≤ 200 := by
  unfold greatB at h
  simp only [Bool.or_eq_false_iff, decide_eq_false_iff_not, List.any_eq_false, decide_eq_true_eq] at h
  refine ⟨by omega, fun x hx => ?_⟩
  have := h.1 x (by rw [List.take_of_length_le (by omega)]; exact hx)
  omega
set_option maxRecDepth 10000 in
set_option maxHeartbeats 1600000 in
theorem great_any (A : Option Addr) (m c : Nat) (L : List Ed) (w : World) (hx : ShE w w.heap.size A m L) (hm : m ≤ maxLen) (hs : ∀ x ∈ L, x.2.2.length ≤ maxLen) :
    Calls Tryd.prog 8 #[.slice A m c] w fun e w' => e = .returned (.bool (greatB L)) ∧ w = w' := by
  have hl : L.length = m := hx.1
  have HL := Lib.hid hl
  have HX := Lib.hid hx
  have HS := Lib.hid hs
  unfold maxLen at hm
  clear hx hl hs
  go_enter Tryd.func8, Tryd.ntmps8
  go_wp2
  go_loopw [3] (fun i wr => ∃ k : Nat, i = .int .i64 (k : Int) ∧ k ≤ m ∧ k ≤ 600 ∧ (L.take k).any (fun x => decide (200 < x.2.2.length)) = false ∧ w = wr) (fun i _ => m - (intOf i).toNat)
  case atStart => exact ⟨0, rfl, Nat.zero_le _, by omega, by simp, rfl⟩
  case round =>
    obtain ⟨k, rfl, hk, hk6, hok, rfl⟩ := hrel
    have HK := Lib.hid hok
    clear hok
    by_cases hlt : k < m ∧ k < 600
    · obtain ⟨hlt, hlt6⟩ := hlt
      obtain ⟨b, off, x, rfl, hbb, hx, c0, c1, c2⟩ := HX.out.at hlt
      have HXX := Lib.hid hx
      have hsz : (strOfNums x.2.2).size = x.2.2.length := strOfNums_size _
      have hmx := HS.out x (List.mem_of_getElem? hx)
      unfold maxLen at hmx
      obtain ⟨S, hS⟩ : ∃ S, strOfNums x.2.2 = S := ⟨_, rfl⟩
      rw [hS] at hsz c2
      have HSZ := Lib.hid hsz
      have hmx' : S.size ≤ 9223372036854775807 := by omega
      clear hx hS hsz hmx
      have hk3 : (k : Int) < (m : Int) := by omega
      have hk4 : (k : Int) < 600 := by omega
      by_cases hg : (200 : Int) < (S.size : Int)
      · go_wp2
        go_ret
        refine ⟨?_, rfl⟩
        have : greatB L = true := by
          unfold greatB
          rw [Bool.or_eq_true]
          refine .inl (List.any_eq_true.2 ⟨x, ?_, ?_⟩)
          · refine List.mem_of_getElem? (i := k) ?_
            rw [List.getElem?_take, if_pos hlt6]
            exact HXX.out
          · have := HSZ.out
            exact decide_eq_true (by omega)
        exact ret_bool this.symm
      · have HN := Lib.hid hg
        go_wp2
        go_roundw
        case rel =>
          refine ⟨k + 1, by go_num, by omega, by omega, ?_, (by trivial)⟩
          have hL := HXX.out
          obtain ⟨hl1, hl2⟩ := List.getElem?_eq_some_iff.1 hL
          rw [List.take_succ_eq_append_getElem hl1, List.any_append, HK.out, hl2]
          have := HN.out
          rw [HSZ.out] at this
          have h2 : ¬ 200 < x.2.2.length := by omega
          simpa using h2
        case measure => simp [intOf]; omega
    · have HE : Hid (greatB L = decide ((600 : Int) < (m : Int))) := Lib.hid (by
        unfold greatB
        have h1 := HL.out
        have h2 := HK.out
        have e : L.take 600 = L.take k := by
          rcases Nat.lt_or_ge k m with h | h
          · obtain rfl : k = 600 := by omega
            rfl
          · rw [List.take_of_length_le (by omega), List.take_of_length_le (by omega)]
        rw [e, h2, Bool.false_or, h1]
        by_cases h6 : 600 < m
        · rw [decide_eq_true h6, decide_eq_true (by omega)]
        · rw [decide_eq_false h6, decide_eq_false (by omega)])
      rcases Nat.lt_or_ge k m with h | h
      · have hk6' : ¬ (k : Int) < 600 := by omega
        have hk3 : (k : Int) < (m : Int) := by omega
        by_cases h7 : (600 : Int) < (m : Int)
        · have e := HE.out
          rw [decide_eq_true h7] at e
          have HE2 := Lib.hid e
          clear e HE hlt
          go_wp2
          go_ret
          exact ⟨ret_bool HE2.out.symm, rfl⟩
        · have e := HE.out
          rw [decide_eq_false h7] at e
          have HE2 := Lib.hid e
          clear e HE hlt
          go_wp2
          go_ret
          exact ⟨ret_bool HE2.out.symm, rfl⟩
      · obtain rfl : k = m := by omega
        have hk3 : ¬ (k : Int) < (k : Int) := by omega
        have h7 : ¬ (600 : Int) < (k : Int) := by omega
        have e := HE.out
        rw [decide_eq_false h7] at e
        have HE2 := Lib.hid e
        clear e HE hlt
        go_wp2
        go_ret
        exact ⟨ret_bool HE2.out.symm, rfl⟩
end Go.Proofs.YtopeechbgblndaaDoor
