/-
  KINDS in the document's words; CONTRACTS OF 'blazonref06.Letter', 'Digit', 'sign'.
-/
import Derived.Test.YthdfoahnkkkbmaaMLx
namespace Go.Proofs.Ythdfoahnkkkbmaa
set_option linter.unusedVariables false
set_option linter.unusedSimpArgs false
open Go.RowKit

theorem kd_cases (c : Int) : (c ∈ [32, 9, 10, 13, 35, 95, 40, 41, 123, 125, 44, 59, 58, 46, 60, 43, 45, 42, 33, 61, 64, 47]) ∨
    (c ∉ [32, 9, 10, 13, 35, 95, 40, 41, 123, 125, 44, 59, 58, 46, 60, 43, 45, 42, 33, 61, 64, 47] ∧ kd c = if (97 ≤ c ∧ c ≤ 122) ∨ (65 ≤ c ∧ c ≤ 90) then 2 else if 48 ≤ c ∧ c ≤ 57 then 3 else 5) := by
  by_cases hm : c ∈ [32, 9, 10, 13, 35, 95, 40, 41, 123, 125, 44, 59, 58, 46, 60, 43, 45, 42, 33, 61, 64, 47]
  · exact .inl hm
  · refine .inr ⟨hm, ?_⟩
    simp only [List.mem_cons, List.not_mem_nil, or_false, not_or] at hm
    unfold kd
    rw [if_neg (by simp; omega), if_neg (by omega), if_neg (by omega), if_neg (by simp; omega)]
theorem kd_2 (c : Int) : kd c = 2 ↔ (97 ≤ c ∧ c ≤ 122) ∨ (65 ≤ c ∧ c ≤ 90) ∨ c = 95 := by
  rcases kd_cases c with h | ⟨h, e⟩
  · simp only [List.mem_cons, List.not_mem_nil, or_false] at h
    rcases h with rfl | rfl | rfl | rfl | rfl | rfl | rfl | rfl | rfl | rfl | rfl | rfl | rfl | rfl | rfl | rfl | rfl | rfl | rfl | rfl | rfl | rfl <;> decide
  · simp only [List.mem_cons, List.not_mem_nil, or_false, not_or] at h
    rw [e]
    split
    · simp; omega
    · split
      · simp; omega
      · simp; omega
theorem kd_3 (c : Int) : kd c = 3 ↔ 48 ≤ c ∧ c ≤ 57 := by
  rcases kd_cases c with h | ⟨h, e⟩
  · simp only [List.mem_cons, List.not_mem_nil, or_false] at h
    rcases h with rfl | rfl | rfl | rfl | rfl | rfl | rfl | rfl | rfl | rfl | rfl | rfl | rfl | rfl | rfl | rfl | rfl | rfl | rfl | rfl | rfl | rfl <;> decide
  · simp only [List.mem_cons, List.not_mem_nil, or_false, not_or] at h
    rw [e]
    split
    · simp; omega
    · split
      · simp; omega
      · simp; omega
theorem kd_0 (c : Int) : kd c = 0 ↔ c = 32 ∨ c = 9 ∨ c = 10 ∨ c = 13 := by
  rcases kd_cases c with h | ⟨h, e⟩
  · simp only [List.mem_cons, List.not_mem_nil, or_false] at h
    rcases h with rfl | rfl | rfl | rfl | rfl | rfl | rfl | rfl | rfl | rfl | rfl | rfl | rfl | rfl | rfl | rfl | rfl | rfl | rfl | rfl | rfl | rfl <;> decide
  · simp only [List.mem_cons, List.not_mem_nil, or_false, not_or] at h
    rw [e]
    split
    · simp; omega
    · split
      · simp; omega
      · simp; omega
theorem kd_1 (c : Int) : kd c = 1 ↔ c = 35 := by
  rcases kd_cases c with h | ⟨h, e⟩
  · simp only [List.mem_cons, List.not_mem_nil, or_false] at h
    rcases h with rfl | rfl | rfl | rfl | rfl | rfl | rfl | rfl | rfl | rfl | rfl | rfl | rfl | rfl | rfl | rfl | rfl | rfl | rfl | rfl | rfl | rfl <;> decide
  · simp only [List.mem_cons, List.not_mem_nil, or_false, not_or] at h
    rw [e]
    split
    · simp; omega
    · split
      · simp; omega
      · simp; omega
theorem kd_4 (c : Int) : kd c = 4 ↔ c ∈ [40, 41, 123, 125, 44, 59, 58, 46, 60, 43, 45, 42, 33, 61, 64, 47] := by
  rcases kd_cases c with h | ⟨h, e⟩
  · simp only [List.mem_cons, List.not_mem_nil, or_false] at h
    rcases h with rfl | rfl | rfl | rfl | rfl | rfl | rfl | rfl | rfl | rfl | rfl | rfl | rfl | rfl | rfl | rfl | rfl | rfl | rfl | rfl | rfl | rfl <;> decide
  · simp only [List.mem_cons, List.not_mem_nil, or_false, not_or] at h ⊢
    rw [e]
    split
    · simp; omega
    · split
      · simp; omega
      · simp; omega

/-- A string's bytes. -/
def bts (s : ByteArray) : List Int := s.data.toList.map fun b => (b.toNat : Int)
theorem bts_len (s : ByteArray) : (bts s).length = s.size := by unfold bts; rw [List.length_map]; rfl

/-- How many bytes the sign has that stands first. -/
def sgn (c : Int) (r : List Int) : Int := if pairsL c r then 2 else if kd c = 4 then 1 else 0
theorem take_two {s : ByteArray} {c d : Int} {r : List Int} (h : bts s = c :: d :: r) (x y : UInt8) : ((s.extract 0 2).toList == [x, y]) = (c == (x.toNat : Int) && d == (y.toNat : Int)) := by
  have e : (s.extract 0 2).toList = s.data.toList.take 2 := by rw [ByteArray.toList_eq]; simp
  rw [e]
  have hb : s.data.toList.map (fun b => (b.toNat : Int)) = c :: d :: r := h
  match hh : s.data.toList with
  | [] => rw [hh] at hb; cases hb
  | [a] => rw [hh] at hb; simp at hb
  | a :: b :: l =>
    rw [hh] at hb
    simp only [List.map_cons, List.cons.injEq] at hb
    obtain ⟨h1, h2, _⟩ := hb
    subst h1
    subst h2
    have key : ∀ p q : UInt8, ((p.toNat : Int) == (q.toNat : Int)) = (p == q) := fun p q => by
      by_cases hpq : p = q
      · subst hpq; simp
      · have : ¬ ((p.toNat : Int) = (q.toNat : Int)) := fun h => hpq (by
          have h3 : p.toNat = q.toNat := by omega
          exact UInt8.toNat_inj.1 h3)
        rw [beq_eq_false_iff_ne.2 hpq, beq_eq_false_iff_ne.2 this]
    rw [key, key]
    simp [List.take]
theorem pairB_two (c d : Int) : pairB c d = ((c == 61 && d == 61) || (c == 38 && d == 38) || (c == 124 && d == 124) || (c == 64 && d == 61)) := by
  unfold pairB
  by_cases h1 : c = 61
  · subst h1; simp
  · by_cases h2 : c = 64
    · subst h2; simp
    · by_cases h3 : c = 38
      · subst h3; simp
      · by_cases h4 : c = 124
        · subst h4; simp
        · simp [h1, h2, h3, h4]

def ones : List Int := [40, 41, 123, 125, 44, 59, 58, 46, 60, 43, 45, 42, 33, 61, 64, 47]
theorem ones_mem {k : Nat} (h : k < 16) : ones.getD k 0 ∈ ones := by
  have : k < ones.length := h
  simp [List.getD, this]
def twos : List (Int × Int) := [(61, 61), (38, 38), (124, 124), (64, 61)]
theorem pairB_twos (c d : Int) : pairB c d = twos.any fun p => c == p.1 && d == p.2 := by
  rw [pairB_two]
  simp [twos, Bool.or_assoc]

theorem idx16 (k : Nat) (h : k < 16) : ((((⟨#[40, 41, 123, 125, 44, 59, 58, 46, 60, 43, 45, 42, 33, 61, 64, 47]⟩ : ByteArray)[k]'h).toNat : Nat) : Int) = ones.getD k 0 := by
  have hk : k = 0 ∨ k = 1 ∨ k = 2 ∨ k = 3 ∨ k = 4 ∨ k = 5 ∨ k = 6 ∨ k = 7 ∨ k = 8 ∨ k = 9 ∨ k = 10 ∨ k = 11 ∨ k = 12 ∨ k = 13 ∨ k = 14 ∨ k = 15 := by omega
  rcases hk with rfl | rfl | rfl | rfl | rfl | rfl | rfl | rfl | rfl | rfl | rfl | rfl | rfl | rfl | rfl | rfl <;> rfl
/-- The document's 'sign'. -/
def SignTo (x : Int) (w : World) (e : Ending) (w' : World) : Prop := e = .returned (.int .i64 x) ∧ Below w.heap.size w w'

end Go.Proofs.Ythdfoahnkkkbmaa
