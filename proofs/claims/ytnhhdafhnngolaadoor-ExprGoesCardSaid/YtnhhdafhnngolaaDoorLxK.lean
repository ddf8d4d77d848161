/-
  CONTRACTS OF 'lex.kindOf' and 'lex.pair'.
-/
import Derived.Test.YtnhhdafhnngolaaDoorLxM
import Derived.Test.YtnhhdafhnngolaaDoorSame
namespace Go.Proofs.YtnhhdafhnngolaaDoor
set_option linter.unusedVariables false
set_option linter.unusedSimpArgs false
open Go.RowKit

theorem ret_int {a b : Int} (h : a = b) : Ending.returned (.int .i64 a) = .returned (.int .i64 b) := by rw [h]

set_option maxRecDepth 10000 in
set_option maxHeartbeats 3200000 in
theorem kindOf_any (c : Int) (w : World) :
    Calls Tryd.prog 74 #[.int .u8 c] w fun e w' => e = .returned (.int .i64 (kd c)) ∧ w = w' := by
  by_cases hm : c ∈ [32, 9, 10, 13, 35, 95, 40, 41, 123, 125, 44, 59, 58, 46, 60, 43, 45, 42, 33, 61, 64, 47]
  · simp only [List.mem_cons, List.not_mem_nil, or_false] at hm
    rcases hm with rfl | rfl | rfl | rfl | rfl | rfl | rfl | rfl | rfl | rfl | rfl | rfl | rfl | rfl | rfl | rfl | rfl | rfl | rfl | rfl | rfl | rfl
    all_goals
      go_enter Tryd.func74, Tryd.ntmps74
      go_wp2
      go_ret
      exact ⟨rfl, rfl⟩
  · simp only [List.mem_cons, List.not_mem_nil, or_false, not_or] at hm
    obtain ⟨h1, h2, h3, h4, h5, h6, h7, h8, h9, h10, h11, h12, h13, h14, h15, h16, h17, h18, h19, h20, h21, h22⟩ := hm
    have e : kd c = if (97 ≤ c ∧ c ≤ 122) ∨ (65 ≤ c ∧ c ≤ 90) then 2 else if 48 ≤ c ∧ c ≤ 57 then 3 else 5 := by
      unfold kd
      rw [if_neg (by simp [h1, h2, h3, h4]), if_neg h5, if_neg h6, if_neg (by simp [h7, h8, h9, h10, h11, h12, h13, h14, h15, h16, h17, h18, h19, h20, h21, h22])]
    have E := Lib.hid e
    clear e
    replace h1 : (c == 32) = false := by simpa using h1
    replace h2 : (c == 9) = false := by simpa using h2
    replace h3 : (c == 10) = false := by simpa using h3
    replace h4 : (c == 13) = false := by simpa using h4
    replace h5 : (c == 35) = false := by simpa using h5
    replace h6 : (c == 95) = false := by simpa using h6
    replace h7 : (c == 40) = false := by simpa using h7
    replace h8 : (c == 41) = false := by simpa using h8
    replace h9 : (c == 123) = false := by simpa using h9
    replace h10 : (c == 125) = false := by simpa using h10
    replace h11 : (c == 44) = false := by simpa using h11
    replace h12 : (c == 59) = false := by simpa using h12
    replace h13 : (c == 58) = false := by simpa using h13
    replace h14 : (c == 46) = false := by simpa using h14
    replace h15 : (c == 60) = false := by simpa using h15
    replace h16 : (c == 43) = false := by simpa using h16
    replace h17 : (c == 45) = false := by simpa using h17
    replace h18 : (c == 42) = false := by simpa using h18
    replace h19 : (c == 33) = false := by simpa using h19
    replace h20 : (c == 61) = false := by simpa using h20
    replace h21 : (c == 64) = false := by simpa using h21
    replace h22 : (c == 47) = false := by simpa using h22
    by_cases a1 : 97 ≤ c
    · by_cases a2 : c ≤ 122
      · go_enter Tryd.func74, Tryd.ntmps74
        go_wp2
        go_ret
        exact ⟨ret_int (by rw [E.out, if_pos (.inl ⟨a1, a2⟩)]), rfl⟩
      · have b1 : 65 ≤ c := by omega
        have b2 : ¬ c ≤ 90 := by omega
        have b3 : 48 ≤ c := by omega
        have b4 : ¬ c ≤ 57 := by omega
        go_enter Tryd.func74, Tryd.ntmps74
        go_wp2
        go_ret
        exact ⟨ret_int (by rw [E.out, if_neg (by omega), if_neg (by omega)]), rfl⟩
    · by_cases b1 : 65 ≤ c
      · by_cases b2 : c ≤ 90
        · go_enter Tryd.func74, Tryd.ntmps74
          go_wp2
          go_ret
          exact ⟨ret_int (by rw [E.out, if_pos (.inr ⟨b1, b2⟩)]), rfl⟩
        · have b3 : 48 ≤ c := by omega
          have b4 : ¬ c ≤ 57 := by omega
          go_enter Tryd.func74, Tryd.ntmps74
          go_wp2
          go_ret
          exact ⟨ret_int (by rw [E.out, if_neg (by omega), if_neg (by omega)]), rfl⟩
      · by_cases b3 : 48 ≤ c
        · by_cases b4 : c ≤ 57
          · go_enter Tryd.func74, Tryd.ntmps74
            go_wp2
            go_ret
            exact ⟨ret_int (by rw [E.out, if_neg (by omega), if_pos ⟨b3, b4⟩]), rfl⟩
          · go_enter Tryd.func74, Tryd.ntmps74
            go_wp2
            go_ret
            exact ⟨ret_int (by rw [E.out, if_neg (by omega), if_neg (by omega)]), rfl⟩
        · go_enter Tryd.func74, Tryd.ntmps74
          go_wp2
          go_ret
          exact ⟨ret_int (by rw [E.out, if_neg (by omega), if_neg (by omega)]), rfl⟩

set_option maxHeartbeats 800000 in
theorem pair_any (c d : Int) (w : World) :
    Calls Tryd.prog 80 #[.int .u8 c, .int .u8 d] w fun e w' => e = .returned (.bool (pairB c d)) ∧ w = w' := by
  by_cases hm : c ∈ [61, 64, 38, 124]
  · simp only [List.mem_cons, List.not_mem_nil, or_false] at hm
    rcases hm with rfl | rfl | rfl | rfl
    all_goals
      go_enter Tryd.func80, Tryd.ntmps80
      go_wp2
      go_ret
      exact ⟨rfl, rfl⟩
  · simp only [List.mem_cons, List.not_mem_nil, or_false, not_or] at hm
    obtain ⟨h1, h2, h3, h4⟩ := hm
    have E := Lib.hid (show pairB c d = false by unfold pairB; rw [if_neg (by omega), if_neg (by omega)])
    replace h1 : (c == 61) = false := by simpa using h1
    replace h2 : (c == 64) = false := by simpa using h2
    replace h3 : (c == 38) = false := by simpa using h3
    replace h4 : (c == 124) = false := by simpa using h4
    go_enter Tryd.func80, Tryd.ntmps80
    go_wp2
    go_ret
    exact ⟨ret_bool E.out.symm, rfl⟩
end Go.Proofs.YtnhhdafhnngolaaDoor
