/-
  CONTRACTS OF the document's Bit, Has, Apart.
-/
import Derived.Test.YthdfoahnkkkbmaaOlA
namespace Go.Proofs.Ythdfoahnkkkbmaa
set_option linter.unusedVariables false
set_option linter.unusedSimpArgs false
open Go.RowKit

theorem dbl_u64 {j : Nat} (h : j + 1 < 64) : IntKind.u64.wrap (2 * (obitN j : Int)) = (obitN (j + 1) : Int) := by
  rw [IntKind.wrap_u64]
  have e : obitN (j + 1) = 2 * obitN j := by unfold obitN; rw [Nat.pow_succ]; omega
  have l : obitN (j + 1) < 18446744073709551616 := pow_lt64 h
  rw [e] at l ⊢
  omega
theorem obit_pos (i : Nat) : 0 < obitN i := Nat.two_pow_pos i
set_option maxRecDepth 10000 in
theorem rbit_any (w : World) (i : Nat) (hi : i < 64) : Calls Try.prog 47 #[.int .i64 (i : Int)] w fun e w' => e = .returned (.int .u64 (obitN i : Int)) ∧ w = w' := by
  go_enter Try.func47, Try.ntmps47
  go_wp2
  go_loopw [3, 4] (fun n k wr => ∃ j : Nat, n = .int .u64 (obitN j : Int) ∧ k = .int .i64 (j : Int) ∧ j ≤ i ∧ wr = w) (fun _ k _ => i - (intOf k).toNat)
  case atStart => exact ⟨0, rfl, rfl, Nat.zero_le _, rfl⟩
  case round =>
    obtain ⟨j, rfl, rfl, hj, rfl⟩ := hrel
    by_cases hlt : j < i
    · have HD := Lib.hid (dbl_u64 (show j + 1 < 64 by omega))
      go_wp2
      go_roundw
      case rel => exact ⟨j + 1, by first | (rw [HD.out]) | exact congrArg (Value.int .u64) HD.out, by go_num, hlt, (by trivial)⟩
      case measure => simp [intOf]; omega
    · obtain rfl : j = i := by omega
      go_wp2
      go_ret
      exact ⟨rfl, by trivial⟩
theorem hasb {s i : Nat} (hs : s < 2 ^ 64) : ((IntKind.u64.wrap ((s : Int) / (obitN i : Int))).tmod 2 == 1) = s.testBit i := by
  rw [Nat.testBit_eq_decide_div_mod_eq]
  have e : (s : Int) / (obitN i : Int) = ((s / 2 ^ i : Nat) : Int) := by unfold obitN; simp
  have hq : s / 2 ^ i < 18446744073709551616 := Nat.lt_of_le_of_lt (Nat.div_le_self _ _) hs
  rw [e, IntKind.wrap_u64]
  obtain ⟨q, hq'⟩ : ∃ q, s / 2 ^ i = q := ⟨_, rfl⟩
  rw [hq'] at hq ⊢
  have e2 : (q : Int) % 18446744073709551616 = (q : Int) := by omega
  rw [e2, Int.tmod_eq_emod_of_nonneg (by omega)]
  rw [Bool.eq_iff_iff, beq_iff_eq, decide_eq_true_eq]
  omega
set_option maxRecDepth 10000 in
theorem rhas_any (w : World) (s i : Nat) (hs : s < 2 ^ 64) (hi : i < 64) : Calls Try.prog 26 #[.int .u64 (s : Int), .int .i64 (i : Int)] w fun e w' => e = .returned (.bool (s.testBit i)) ∧ w = w' := by
  have h0 : ¬ (obitN i : Int) = 0 := by have := obit_pos i; omega
  have HBT := Lib.hid (rbit_any w i hi)
  obtain ⟨p, hp⟩ : ∃ p : Nat, obitN i = p := ⟨_, rfl⟩
  have HH := Lib.hid (hasb (i := i) hs)
  rw [hp] at h0 HBT HH
  clear hp
  go_enter Try.func26, Try.ntmps26
  go_wp2_with (first
    | (go_at_call 47; (with_reducible refine HBT.out.mono ?_); rintro e w2 ⟨rfl, rfl⟩)
    | go_in)
  go_ret
  exact ⟨ret_bool HH.out, rfl⟩
end Go.Proofs.Ythdfoahnkkkbmaa
