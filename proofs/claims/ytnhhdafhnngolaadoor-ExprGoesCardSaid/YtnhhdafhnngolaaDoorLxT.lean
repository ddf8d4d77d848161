/-
  CONTRACTS OF the closures of 'lex.tokenAt', and of 'slices.IndexFunc' at bytes.
-/
import Derived.Test.YtnhhdafhnngolaaDoorLxK
import Derived.Shelf.Abstract
import Derived.BigQuiet
import Derived.Deep.QuietTactic
namespace Go.Proofs.YtnhhdafhnngolaaDoor
set_option linter.unusedVariables false
set_option linter.unusedSimpArgs false
open Go.RowKit

/-- Where the first byte stands that 'ends' holds of; -1: nowhere. -/
def firstB (go : Int → Bool) (l : List Int) : Int := if runB go l < l.length then (runB go l : Int) else -1
/-- A function value that tells of each byte whether it goes on: false. It makes no memory. -/
def Ends (w : World) (g : Nat) (lb : Array Value) (go : Int → Bool) : Prop :=
  ∀ (W : World) (x : Int), Quiet w W → Calls Tryd.prog g (#[.int .u8 x] ++ lb) W fun e w' => e = .returned (.bool (!(go x))) ∧ Quiet W w'

theorem stop2_any (b : Nat) (k x : Int) (w : World) (hk : w.cell? ⟨b, 0, none⟩ = some (.int .i64 k)) :
    Calls Tryd.prog 77 #[.int .u8 x, .pointer (some ⟨b, 0, none⟩)] w fun e w' => e = .returned (.bool (kd x != k)) ∧ Quiet w w' := by
  go_enter Tryd.func77, Tryd.ntmps77
  go_wp2
  go_quiet ((go_at_call 74; exact Calls.quiet_of_same ((kindOf_any _ _).mono fun e w' ⟨h1, h2⟩ => ⟨h1, h2.symm⟩)))
  go_wp2
  go_ret
  exact ⟨rfl, Quiet.one _ _⟩
theorem stop3_any (x : Int) (w : World) :
    Calls Tryd.prog 78 #[.int .u8 x] w fun e w' => e = .returned (.bool (kd x != 2 && kd x != 3)) ∧ Quiet w w' := by
  cases h : (kd x != 2)
  all_goals
    go_enter Tryd.func78, Tryd.ntmps78
    go_wp2_with (go_at_call 74; refine (kindOf_any _ _).mono ?_; rintro e w' ⟨rfl, rfl⟩)
    go_ret
    exact ⟨rfl, Quiet.refl _⟩
theorem stop4_any (x : Int) (w : World) :
    Calls Tryd.prog 79 #[.int .u8 x] w fun e w' => e = .returned (.bool (x == 10)) ∧ Quiet w w' := by
  go_enter Tryd.func79, Tryd.ntmps79
  go_wp2
  go_ret
  exact ⟨rfl, Quiet.refl _⟩

theorem runB_stop_at {go : Int → Bool} {l : List Int} {k : Nat} (h : ∀ j, j < k → go (l.getD j 0) = true) (hk : k < l.length) (hs : go (l.getD k 0) = false) : runB go l = k := by
  induction l generalizing k with
  | nil => simp at hk
  | cons y l ih =>
    cases k with
    | zero => exact runB_no (by simpa using hs)
    | succ k =>
      have h0 : go y = true := by simpa using h 0 (by omega)
      rw [runB_yes h0, ih (k := k) (fun j hj => by simpa using h (j + 1) (by omega)) (by simpa using hk) (by simpa using hs)]
theorem runB_all {go : Int → Bool} {l : List Int} (h : ∀ j, j < l.length → go (l.getD j 0) = true) : runB go l = l.length := by
  induction l with
  | nil => rfl
  | cons y l ih =>
    have h0 : go y = true := by simpa using h 0 (by simp)
    rw [runB_yes h0, ih (fun j hj => by simpa using h (j + 1) (by simp; omega))]
    rfl

set_option maxHeartbeats 800000 in
theorem indexF_any (g : Nat) (lb : Array Value) (eg : ∀ args w, (callFunc g args).run Tryd.prog w = .ok (.enter g args) w) (go : Int → Bool) (A : Option Addr) (n c : Nat) (xs : List Int) (w : World) (U : Nat) (hf : Ends w g lb go) (hx : Sh w U A n (by8 xs)) (hn : n ≤ maxLen) :
    Calls Tryd.prog 76 #[.slice A n c, .func (.func g) #[] lb] w fun e w' => e = .returned (.int .i64 (firstB go xs)) ∧ Quiet w w' := by
  unfold maxLen at hn
  have hl : xs.length = n := by have := hx.len; rwa [by8_len] at this
  have HL := Lib.hid hl
  clear hl
  have HX := Lib.hid hx
  have HF := Lib.hid hf
  clear hx hf
  go_enter Tryd.func76, Tryd.ntmps76
  go_wp2
  go_loopw [5, 8] (fun _ i wr => ∃ k : Nat, k ≤ n ∧ i = .int .i64 k ∧ (∀ j, j < k → go (xs.getD j 0) = true) ∧ Quiet w wr) (fun _ i _ => n - (intOf i).toNat)
  case atStart => exact ⟨0, Nat.zero_le _, rfl, fun j hj => absurd hj (Nat.not_lt_zero _), Quiet.refl _⟩
  case round =>
    obtain ⟨k, hk, rfl, ha, hq⟩ := hrel
    have HA := Lib.hid ha
    have HQ := Lib.hid hq
    clear ha
    by_cases hlt : k < n
    · obtain ⟨b, off, rfl, hb, hc⟩ := HX.out.byte hlt
      replace hc : wr.cell? ⟨b, off + k, none⟩ = some (.int .u8 (xs.getD k 0)) := by
        obtain ⟨q, rfl⟩ := hq
        exact hc
      have hcall := Lib.hid (HF.out wr (xs.getD k 0) hq)
      obtain ⟨x, hx0⟩ : ∃ x, x = xs.getD k 0 := ⟨_, rfl⟩
      rw [← hx0] at hc hcall
      have HX0 := Lib.hid hx0
      clear hx0 hq
      cases hgo : go x with
      | true =>
        have HG := Lib.hid hgo
        rw [hgo] at hcall
        clear hgo
        go_wp2_with (go_at_fn g; refine hcall.out.mono ?_; rintro e w' ⟨rfl, hb'⟩)
        go_roundw
        case rel =>
          refine ⟨k + 1, by omega, by go_num, fun j hj => ?_, HQ.out.trans hb'⟩
          rcases Nat.lt_or_ge j k with h | h
          · exact HA.out j h
          · obtain rfl : j = k := by omega
            rw [← HX0.out]; exact HG.out
        case measure => simp [intOf]; omega
      | false =>
        have HG := Lib.hid hgo
        rw [hgo] at hcall
        clear hgo
        go_wp2_with (go_at_fn g; refine hcall.out.mono ?_; rintro e w' ⟨rfl, hb'⟩)
        go_ret
        refine ⟨?_, HQ.out.trans hb'⟩
        have hr := runB_stop_at (go := go) HA.out (by rw [HL.out]; exact hlt) (by rw [← HX0.out]; exact HG.out)
        exact ret_int (by unfold firstB; rw [hr, if_pos (by rw [HL.out]; exact hlt)])
    · obtain rfl : k = n := by omega
      clear hq
      go_wp2
      go_ret
      refine ⟨?_, HQ.out⟩
      have hr := runB_all (go := go) (l := xs) (by rw [HL.out]; exact HA.out)
      exact ret_int (by unfold firstB; rw [hr, if_neg (by omega)])
end Go.Proofs.YtnhhdafhnngolaaDoor
