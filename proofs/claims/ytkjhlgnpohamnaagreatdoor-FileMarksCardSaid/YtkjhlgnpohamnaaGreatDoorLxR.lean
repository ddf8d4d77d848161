import Derived.Test.YtkjhlgnpohamnaaGreatDoorMLx
namespace Go.Proofs.YtkjhlgnpohamnaaGreatDoor
set_option linter.unusedVariables false
set_option linter.unusedSimpArgs false
open Go.RowKit
theorem kd_cases (c : Int) : (c ∈ [32,9,10,13,35,95,40,41,123,125,44,59,58,46,60,43,45,42,33,61,64,47]) ∨
  (c ∉ [32,9,10,13,35,95,40,41,123,125,44,59,58,46,60,43,45,42,33,61,64,47] ∧ kd c = if (97 ≤ c ∧ c ≤ 122) ∨ (65 ≤ c ∧ c ≤ 90) then 2 else if 48 ≤ c ∧ c ≤ 57 then 3 else 5):=by
 by_cases hm : c ∈ [32,9,10,13,35,95,40,41,123,125,44,59,58,46,60,43,45,42,33,61,64,47]
 ·exact .inl hm
 ·refine .inr ⟨hm,?_⟩
  simp only [List.mem_cons,List.not_mem_nil,or_false,not_or] at hm
  unfold kd
  rw [if_neg (by simp; omega),if_neg (by omega),if_neg (by omega),if_neg (by simp; omega)]
theorem kd_3 (c : Int) : kd c = 3 ↔ 48 ≤ c ∧ c ≤ 57:=by
 rcases kd_cases c with h | ⟨h,e⟩
 ·simp only [List.mem_cons,List.not_mem_nil,or_false] at h
  rcases h with rfl | rfl | rfl | rfl | rfl | rfl | rfl | rfl | rfl | rfl | rfl | rfl | rfl | rfl | rfl | rfl | rfl | rfl | rfl | rfl | rfl | rfl <;> decide
 ·simp only [List.mem_cons,List.not_mem_nil,or_false,not_or] at h
  rw [e]
  split
  ·simp; omega
  ·split
   ·simp; omega
   ·simp; omega
def bts (s : ByteArray) : List Int:=s.data.toList.map fun b => (b.toNat : Int)
theorem bts_len (s : ByteArray) : (bts s).length = s.size:=by unfold bts; rw [List.length_map]; rfl
end Go.Proofs.YtkjhlgnpohamnaaGreatDoor
