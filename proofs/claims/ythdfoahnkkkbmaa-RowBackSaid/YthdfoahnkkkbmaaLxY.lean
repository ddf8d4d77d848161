/-
  CONTRACTS OF 'lex.Keyword', 'blazonref06.Keyword', 'lex.Ident', 'blazonref06.Ident'.
-/
import Derived.Test.YthdfoahnkkkbmaaLxC
namespace Go.Proofs.Ythdfoahnkkkbmaa
set_option linter.unusedVariables false
set_option linter.unusedSimpArgs false
open Go.RowKit

def kws : List (List UInt8) := [[105, 109, 112, 111, 114, 116], [108, 97, 116, 116, 105, 99, 101], [101, 102, 102, 101, 99, 116, 115], [118, 97, 114], [102, 110], [108, 101, 116], [105, 102], [101, 108, 115, 101], [119, 104, 105, 108, 101], [114, 101, 116, 117, 114, 110], [100, 111], [116, 114, 117, 101], [102, 97, 108, 115, 101], [105, 110, 116], [98, 111, 111, 108], [100, 101, 99, 108, 97, 115, 115, 105, 102, 121]]
def kwB (s : ByteArray) : Bool := kws.any fun l => s.toList == l

set_option maxRecDepth 10000 in
set_option maxHeartbeats 1600000 in
theorem keyword_any (s : ByteArray) (w : World) : Calls Try.prog 58 #[.string s] w fun e w' => e = .returned (.bool (kwB s)) ∧ w = w' := by
  by_cases hk : kwB s = true
  · have hm : ∃ l ∈ kws, s.toList = l := by
      obtain ⟨l, hl, he⟩ := List.any_eq_true.1 hk
      exact ⟨l, hl, by simpa using he⟩
    obtain ⟨l, hl, he⟩ := hm
    rw [hk]
    have e1 := Lib.hid he
    simp only [kws, List.mem_cons, List.not_mem_nil, or_false] at hl
    clear hk he
    have hq : ∀ l', (s.toList == l') = (l == l') := fun l' => by rw [e1.out]
    clear e1
    rcases hl with rfl | rfl | rfl | rfl | rfl | rfl | rfl | rfl | rfl | rfl | rfl | rfl | rfl | rfl | rfl | rfl
    all_goals
      go_enter Try.func58, Try.ntmps58
      go_wp2
      go_ret
      exact ⟨rfl, rfl⟩
  · have hk' : kwB s = false := by simpa using hk
    rw [hk']
    have hall : ∀ l ∈ kws, (s.toList == l) = false := fun l hl => by
      have := List.any_eq_false.1 hk' l hl
      simpa using this
    simp only [kws, List.mem_cons, List.not_mem_nil, or_false, forall_eq_or_imp, forall_eq] at hall
    obtain ⟨h1, h2, h3, h4, h5, h6, h7, h8, h9, h10, h11, h12, h13, h14, h15, h16⟩ := hall
    clear hk hk'
    go_enter Try.func58, Try.ntmps58
    go_wp2
    go_ret
    exact ⟨rfl, rfl⟩

theorem kw_of {s : ByteArray} {k : Nat} (hk : k < 16) (h : (kws.getD k [] == s.toList) = true) : kwB s = true := by
  refine List.any_eq_true.2 ⟨kws.getD k [], ?_, ?_⟩
  · have : k < kws.length := hk
    simp [List.getD, this]
  · have : kws.getD k [] = s.toList := by simpa using h
    rw [this]; simp
theorem kw_no {s : ByteArray} (h : ∀ j, j < 16 → (kws.getD j [] == s.toList) = false) : kwB s = false := by
  refine List.any_eq_false.2 fun l hl => ?_
  obtain ⟨j, hj, rfl⟩ := List.getElem_of_mem hl
  have := h j hj
  have hg : kws.getD j [] = kws[j] := by simp [List.getD, hj]
  rw [hg] at this
  intro e
  have e' : s.toList = kws[j] := by simpa using e
  rw [e'] at this
  simp at this

def identL : List Int → Bool
  | [] => false
  | c :: r => kd c == 2 && r.all fun x => kd x == 2 || kd x == 3
theorem identL_cons (c : Int) (r : List Int) : identL (c :: r) = (kd c == 2 && r.all fun x => kd x == 2 || kd x == 3) := rfl
def idB (s : ByteArray) : Bool := decide (s.size ≤ 24) && !(kwB s) && identL (bts s)
theorem run_full {p : Int → Bool} {l : List Int} : (runB p l == l.length) = l.all p := by
  induction l with
  | nil => rfl
  | cons x l ih =>
    cases h : p x
    · rw [runB_no h]
      simp [h]
    · rw [runB_yes h, List.length_cons, List.all_cons, h, ← ih]
      simp
theorem ident_tok {bs : List Int} (h : 0 < bs.length) : identL bs = (tk bs == 2 && ((tl bs : Int) == (bs.length : Int))) := by
  cases bs with
  | nil => simp at h
  | cons c r =>
    have hr := kd_range c
    by_cases h2 : kd c = 2
    · have e1 : tk (c :: r) = 2 := by rw [tk_cons, if_pos (by omega), h2]
      have e2 : tl (c :: r) = 1 + runB (goes 2) r := by rw [tl_cons, if_pos (by omega), h2]
      have e3 : (r.all fun x => kd x == 2 || kd x == 3) = r.all (goes 2) := rfl
      rw [identL_cons]
      rw [h2, e1, e2, e3, ← run_full]
      have : (((1 + runB (goes 2) r : Nat) : Int) == (((c :: r).length : Nat) : Int)) = (runB (goes 2) r == r.length) := by
        rw [List.length_cons]
        by_cases e : runB (goes 2) r = r.length
        · rw [e]; simp; omega
        · have h1 : ¬ (((1 + runB (goes 2) r : Nat) : Int) = ((r.length + 1 : Nat) : Int)) := by omega
          rw [beq_eq_false_iff_ne.2 e, beq_eq_false_iff_ne.2 h1]
      rw [this]
    · have e1 : (tk (c :: r) == 2) = false := by
        rw [tk_cons]
        split
        · simpa using h2
        · split
          · rfl
          · simpa using h2
      rw [identL_cons]
      rw [e1]
      simp [h2]
theorem ident_no {bs : List Int} {j : Nat} (hj : j < bs.length) (h : kd (bs.getD j 0) ≠ 2 ∧ (j = 0 ∨ kd (bs.getD j 0) ≠ 3)) : identL bs = false := by
  cases bs with
  | nil => simp at hj
  | cons c r =>
    rw [identL_cons]
    cases j with
    | zero =>
      have h1 : ¬ kd c = 2 := by simpa using h.1
      simp [h1]
    | succ j =>
      have hjr : j < r.length := by simpa using hj
      have hx : (c :: r).getD (j + 1) 0 = r[j] := by simp [List.getD, hjr]
      rw [hx] at h
      have : (r.all fun x => kd x == 2 || kd x == 3) = false := by
        refine List.all_eq_false.2 ⟨r[j], List.getElem_mem _, ?_⟩
        simp
        exact ⟨h.1, by rcases h.2 with e | e; · omega
                       · exact e⟩
      rw [this]
      simp
theorem ident_yes {bs : List Int} (h0 : 0 < bs.length) (h : ∀ j, j < bs.length → kd (bs.getD j 0) = 2 ∨ (j ≠ 0 ∧ kd (bs.getD j 0) = 3)) : identL bs = true := by
  cases bs with
  | nil => simp at h0
  | cons c r =>
    rw [identL_cons]
    have hc : kd c = 2 := by
      rcases h 0 (by simp) with e | e
      · simpa using e
      · exact absurd rfl e.1
    have hr : (r.all fun x => kd x == 2 || kd x == 3) = true := by
      refine List.all_eq_true.2 fun x hx => ?_
      obtain ⟨j, hj, rfl⟩ := List.getElem_of_mem hx
      have := h (j + 1) (by simpa using hj)
      have hg : (c :: r).getD (j + 1) 0 = r[j] := by simp [List.getD, hj]
      rw [hg] at this
      rcases this with e | e
      · simp [e]
      · simp [e.2]
    rw [hr, hc]
    rfl
end Go.Proofs.Ythdfoahnkkkbmaa
