/-
  CONTRACT OF 'until', the closure of 'lex.tokenAt'; of 'lex.tokenAt'.
-/
import Derived.Test.YtnhhdafhnngolaaDoorLxT
import Derived.Test.YtnhhdafhnngolaaDoorRowB
import Derived.Deep.RegionHeld3
import Derived.Deep.RegionWith
namespace Go.Proofs.YtnhhdafhnngolaaDoor
set_option linter.unusedVariables false
set_option linter.unusedSimpArgs false
open Go.RowKit

theorem firstB_end {go : Int → Bool} {l : List Int} (u : Nat) : (if 0 ≤ firstB go l then (u : Int) + firstB go l else (u : Int) + (l.length : Int)) = (u : Int) + (runB go l : Int) := by
  unfold firstB
  have := runB_le go l
  split
  · rw [if_pos (by omega)]
  · rw [if_neg (by omega)]; omega
theorem firstB_range {go : Int → Bool} {l : List Int} : -1 ≤ firstB go l ∧ firstB go l ≤ l.length := by
  unfold firstB
  split <;> omega

set_option maxHeartbeats 800000 in
/-- until(ends): where the token ends that goes on from its end so far. -/
theorem until_any (g : Nat) (lb : Array Value) (eg : ∀ args w, (callFunc g args).run Tryd.prog w = .ok (.enter g args) w) (go : Int → Bool) (A : Option Addr) (n c p q u : Nat) (xs : List Int) (w : World) (U : Nat) (hf : Ends w g lb go) (hx : Sh w U A n (by8 xs)) (hcA : c = 0 ∨ ∃ b off, A = some ⟨b, off, none⟩) (hn : n ≤ 1000000) (hnc : n ≤ c) (hcm : c ≤ maxLen)
    (hp : w.cell? ⟨p, 0, none⟩ = some (.slice A n c)) (hq : w.cell? ⟨q, 2, none⟩ = some (.int .i64 (u : Int))) (hu : u ≤ n) :
    Calls Tryd.prog 75 #[.func (.func g) #[] lb, .pointer (some ⟨p, 0, none⟩), .pointer (some ⟨q, 0, none⟩)] w fun e w' => e = .returned (.int .i64 ((u : Int) + (runB go (xs.drop u) : Int))) ∧ Quiet w w' := by
  have hl : xs.length = n := by have := hx.len; rwa [by8_len] at this
  unfold maxLen at hcm
  have HI : Hid (∀ T c', (u < n → ∃ b off, A = some ⟨b, off, none⟩ ∧ T = some ⟨b, off + u, none⟩) → Calls Tryd.prog 76 #[.slice T (n - u) c', .func (.func g) #[] lb] w fun e w' => e = .returned (.int .i64 (firstB go (xs.drop u))) ∧ Quiet w w') := Lib.hid fun T c' hT => by
    have hpc := hx.piece (lo := u) (hi := n) hu (Nat.le_refl _) (A' := T) (fun b off e hlt => by
      obtain ⟨b', off', e', rfl⟩ := hT hlt
      rw [e] at e'
      cases e'
      rfl)
    rw [by8_take, by8_drop, List.take_of_length_le (by omega)] at hpc
    exact indexF_any g lb eg go T (n - u) c' (xs.drop u) w U hf hpc (by unfold maxLen; omega)
  have hr := firstB_range (go := go) (l := xs.drop u)
  have HE := Lib.hid (firstB_end (go := go) (l := xs.drop u) u)
  have hdl : (xs.drop u).length = n - u := by simp [hl]
  rw [hdl] at hr HE
  obtain ⟨r, hr0⟩ : ∃ r, firstB go (xs.drop u) = r := ⟨_, rfl⟩
  obtain ⟨k, hk0⟩ : ∃ k, runB go (xs.drop u) = k := ⟨_, rfl⟩
  rw [hr0] at hr HI HE
  rw [hk0] at HE ⊢
  clear hx hf hl hdl hr0 hk0
  by_cases hun : u < n
  · obtain ⟨b, off, rfl⟩ : ∃ b off, A = some ⟨b, off, none⟩ := by
      rcases hcA with h0 | h0
      · omega
      · exact h0
    have hcu : ¬ c = u := by omega
    by_cases h0 : 0 ≤ r
    · go_enter Tryd.func75, Tryd.ntmps75
      go_wp2_with (go_at_call 76; refine (HI.out _ _ (fun _ => ⟨b, off, rfl, rfl⟩)).mono ?_; rintro e w1 ⟨rfl, k1, rfl⟩)
      go_ret
      exact ⟨ret_int (by have := HE.out; split at this <;> omega), Quiet.one _ _⟩
    · go_enter Tryd.func75, Tryd.ntmps75
      go_wp2_with (go_at_call 76; refine (HI.out _ _ (fun _ => ⟨b, off, rfl, rfl⟩)).mono ?_; rintro e w1 ⟨rfl, k1, rfl⟩)
      go_ret
      exact ⟨ret_int (by have := HE.out; split at this <;> omega), Quiet.one _ _⟩
  · by_cases h0 : 0 ≤ r
    · by_cases hcu : c = u
      · go_enter Tryd.func75, Tryd.ntmps75
        go_wp2_with (go_at_call 76; refine (HI.out _ _ (fun h => absurd h hun)).mono ?_; rintro e w1 ⟨rfl, k1, rfl⟩)
        go_ret
        exact ⟨ret_int (by have := HE.out; split at this <;> omega), Quiet.one _ _⟩
      · obtain ⟨b, off, rfl⟩ : ∃ b off, A = some ⟨b, off, none⟩ := by
          rcases hcA with h0 | h0
          · omega
          · exact h0
        go_enter Tryd.func75, Tryd.ntmps75
        go_wp2_with (go_at_call 76; refine (HI.out _ _ (fun h => absurd h hun)).mono ?_; rintro e w1 ⟨rfl, k1, rfl⟩)
        go_ret
        exact ⟨ret_int (by have := HE.out; split at this <;> omega), Quiet.one _ _⟩
    · by_cases hcu : c = u
      · go_enter Tryd.func75, Tryd.ntmps75
        go_wp2_with (go_at_call 76; refine (HI.out _ _ (fun h => absurd h hun)).mono ?_; rintro e w1 ⟨rfl, k1, rfl⟩)
        go_ret
        exact ⟨ret_int (by have := HE.out; split at this <;> omega), Quiet.one _ _⟩
      · obtain ⟨b, off, rfl⟩ : ∃ b off, A = some ⟨b, off, none⟩ := by
          rcases hcA with h0 | h0
          · omega
          · exact h0
        go_enter Tryd.func75, Tryd.ntmps75
        go_wp2_with (go_at_call 76; refine (HI.out _ _ (fun h => absurd h hun)).mono ?_; rintro e w1 ⟨rfl, k1, rfl⟩)
        go_ret
        exact ⟨ret_int (by have := HE.out; split at this <;> omega), Quiet.one _ _⟩
end Go.Proofs.YtnhhdafhnngolaaDoor
