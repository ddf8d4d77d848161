/-
  CONTRACT OF blazonref03.Bulk: what it says of files when it says little.
-/
import Derived.Test.YtekhockdgglndaaDOpen
import Derived.BigRegion
namespace Go.Proofs.Ytekhockdgglndaa
set_option linter.unusedVariables false
set_option linter.unusedSimpArgs false
open Go.RowKit Go.Maps

set_option maxRecDepth 10000 in
set_option maxHeartbeats 1600000 in
theorem bulk_any (A : Option Addr) (n c : Nat) (l : List FIn) (w : World) (U : Nat) (h : InAt w U A n l) (hn : n ≤ maxLen) :
    Calls Try.prog 4 #[.slice A n c, .int .i64 2000] w fun e w' => (∃ z : Nat, e = .returned (.int .i64 (z : Int)) ∧ z ≤ 10000 ∧ (z ≤ 2000 → n ≤ 2000 ∧ sizeF l ≤ 2000 ∧ ∀ f ∈ l, f.s.size ≤ 2000)) ∧ Quiet w w' := by
  have HL := Lib.hid h.1
  have HI := Lib.hid h
  unfold maxLen at hn
  clear h
  go_enter Try.func4, Try.ntmps4
  go_wp2
  go_loopw [6, 5] (fun i x wr => ∃ k z : Nat, k ≤ n ∧ i = .int .i64 k ∧ x = .int .i64 (z : Int) ∧ z ≤ 10000 ∧ Hid (z ≤ 2000 → k ≤ z ∧ sizeF (l.take k) ≤ z ∧ ∀ f ∈ l.take k, f.s.size ≤ 2000) ∧ Quiet w wr) (fun i _ _ => n - (intOf i).toNat)
  case atStart => exact ⟨0, 0, Nat.zero_le _, rfl, rfl, Nat.zero_le _, Lib.hid (fun _ => ⟨Nat.le_refl _, by simp [sizeF], fun f hf => by simp at hf⟩), Quiet.refl _⟩
  case round =>
    obtain ⟨k, z, hk, rfl, rfl, hz, hno, hq⟩ := hrel
    obtain ⟨q, rfl⟩ := hq
    by_cases hlt : k < n
    · by_cases hz2 : z ≤ 2000
      · obtain ⟨b, off, D, cd, f, hf, rfl, hbU, hc0, hc1, hsh, hs, hd⟩ := HI.out.at hlt
        obtain ⟨len, hlen⟩ : ∃ len, len = f.d.length := ⟨_, rfl⟩
        rw [← hlen] at hc1 hd
        unfold maxLen at hs hd
        have HF := Lib.hid hf
        have HLE := Lib.hid hlen
        have HSN := Lib.hid (sizeF_snoc hf)
        clear hsh hf hlen
        by_cases l1 : len ≤ 2001
        · have m1 : min (len : Int) 2001 = len := by omega
          by_cases l2 : f.s.size ≤ 2001
          · have m2 : min (f.s.size : Int) 2001 = f.s.size := by omega
            go_wp2
            go_quiet (fail)
            go_wp2
            go_roundw
            case rel =>
              refine ⟨k + 1, z + 1 + len + f.s.size, by omega, by go_num, by go_num, by omega, Lib.hid (fun hz3 => ?_), ⟨_, rfl⟩⟩
              obtain ⟨g1, g2, g3⟩ := hno.out hz2
              have hs1 := HSN.out
              rw [← HLE.out] at hs1
              refine ⟨by omega, by omega, fun y hy => ?_⟩
              obtain ⟨e1, e2⟩ := List.getElem?_eq_some_iff.1 HF.out
              rw [List.take_succ_eq_append_getElem e1, e2] at hy
              rcases List.mem_append.1 hy with h3 | h3
              · exact g3 y h3
              · rw [List.mem_singleton.1 h3]
                omega
            case measure => simp [intOf]; omega
          · have m2 : min (f.s.size : Int) 2001 = 2001 := by omega
            go_wp2
            go_quiet (fail)
            go_wp2
            go_roundw
            case rel =>
              refine ⟨k + 1, z + 1 + len + 2001, by omega, by go_num, by go_num, by omega, Lib.hid (fun hz3 => ?_), ⟨_, rfl⟩⟩
              obtain ⟨g1, g2, g3⟩ := hno.out hz2
              have hs1 := HSN.out
              rw [← HLE.out] at hs1
              refine ⟨by omega, by omega, fun y hy => ?_⟩
              obtain ⟨e1, e2⟩ := List.getElem?_eq_some_iff.1 HF.out
              rw [List.take_succ_eq_append_getElem e1, e2] at hy
              rcases List.mem_append.1 hy with h3 | h3
              · exact g3 y h3
              · rw [List.mem_singleton.1 h3]
                omega
            case measure => simp [intOf]; omega
        · have m1 : min (len : Int) 2001 = 2001 := by omega
          by_cases l2 : f.s.size ≤ 2001
          · have m2 : min (f.s.size : Int) 2001 = f.s.size := by omega
            go_wp2
            go_quiet (fail)
            go_wp2
            go_roundw
            case rel =>
              refine ⟨k + 1, z + 1 + 2001 + f.s.size, by omega, by go_num, by go_num, by omega, Lib.hid (fun hz3 => ?_), ⟨_, rfl⟩⟩
              obtain ⟨g1, g2, g3⟩ := hno.out hz2
              have hs1 := HSN.out
              rw [← HLE.out] at hs1
              refine ⟨by omega, by omega, fun y hy => ?_⟩
              obtain ⟨e1, e2⟩ := List.getElem?_eq_some_iff.1 HF.out
              rw [List.take_succ_eq_append_getElem e1, e2] at hy
              rcases List.mem_append.1 hy with h3 | h3
              · exact g3 y h3
              · rw [List.mem_singleton.1 h3]
                omega
            case measure => simp [intOf]; omega
          · have m2 : min (f.s.size : Int) 2001 = 2001 := by omega
            go_wp2
            go_quiet (fail)
            go_wp2
            go_roundw
            case rel =>
              refine ⟨k + 1, z + 1 + 2001 + 2001, by omega, by go_num, by go_num, by omega, Lib.hid (fun hz3 => ?_), ⟨_, rfl⟩⟩
              obtain ⟨g1, g2, g3⟩ := hno.out hz2
              have hs1 := HSN.out
              rw [← HLE.out] at hs1
              refine ⟨by omega, by omega, fun y hy => ?_⟩
              obtain ⟨e1, e2⟩ := List.getElem?_eq_some_iff.1 HF.out
              rw [List.take_succ_eq_append_getElem e1, e2] at hy
              rcases List.mem_append.1 hy with h3 | h3
              · exact g3 y h3
              · rw [List.mem_singleton.1 h3]
                omega
            case measure => simp [intOf]; omega
      · go_wp2
        go_ret
        exact ⟨⟨z, rfl, hz, fun h => absurd h hz2⟩, ⟨_, rfl⟩⟩
    · obtain rfl : n = k := by omega
      have HE := Lib.hid (fun h => hno.out h)
      go_wp2
      all_goals
        go_ret
        refine ⟨⟨z, rfl, hz, fun h => ?_⟩, ⟨_, rfl⟩⟩
        obtain ⟨g1, g2, g3⟩ := hno.out h
        rw [List.take_of_length_le (by rw [HL.out]; exact Nat.le_refl _)] at g2 g3
        exact ⟨by omega, by omega, g3⟩
end Go.Proofs.Ytekhockdgglndaa
