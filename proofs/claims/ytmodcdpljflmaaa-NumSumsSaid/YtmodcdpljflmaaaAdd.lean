/-
  CONTRACTS OF 'num.Add' and 'blazonref01.Add'.
-/
import Derived.Test.YtmodcdpljflmaaaRows
import Derived.Test.YtmodcdpljflmaaaMem
import Derived.WalkKit
import Derived.IntWalk
namespace Go.Proofs.Ytmodcdpljflmaaa
set_option linter.unusedVariables false
set_option linter.unusedSimpArgs false
open Go.RowKit

def In64 (n : Int) : Prop := -9223372036854775808 ≤ n ∧ n ≤ 9223372036854775807

set_option maxHeartbeats 400000 in
theorem add_yes (a b : Int) (w : World) (ha : In64 a) (hb : In64 b) (h : In64 (a + b)) :
    Calls Try.prog 20 #[.int .i64 a, .int .i64 b] w fun e w' => e = .returned (.tuple #[.int .i64 (a + b), .int .i64 0]) ∧ w = w' := by
  unfold In64 at ha hb h
  rcases Int.lt_trichotomy b 0 with h0 | h0 | h0
  · have h1 : ¬ 0 < b := by omega
    have h2 : ¬ a < -9223372036854775808 - b := by omega
    go_enter Try.func20, Try.ntmps20
    go_wp2
    go_ret2
    exact ⟨rfl, rfl⟩
  · subst h0
    go_enter Try.func20, Try.ntmps20
    go_wp2
    go_ret2
    exact ⟨by simp, rfl⟩
  · have h1 : ¬ b < 0 := by omega
    have h2 : ¬ 9223372036854775807 - b < a := by omega
    go_enter Try.func20, Try.ntmps20
    go_wp2
    go_ret2
    exact ⟨rfl, rfl⟩

set_option maxHeartbeats 400000 in
theorem add_no (a b : Int) (w : World) (ha : In64 a) (hb : In64 b) (h : ¬ In64 (a + b)) :
    Calls Try.prog 20 #[.int .i64 a, .int .i64 b] w fun e w' => e = .returned (.tuple #[.int .i64 0, .int .i64 18]) ∧ w = w' := by
  unfold In64 at ha hb h
  rcases Int.lt_trichotomy b 0 with h0 | h0 | h0
  · have h1 : ¬ 0 < b := by omega
    have h2 : a < -9223372036854775808 - b := by omega
    go_enter Try.func20, Try.ntmps20
    go_wp2
    go_ret2
    exact ⟨rfl, rfl⟩
  · omega
  · have h1 : ¬ b < 0 := by omega
    have h2 : 9223372036854775807 - b < a := by omega
    go_enter Try.func20, Try.ntmps20
    go_wp2
    go_ret2
    exact ⟨rfl, rfl⟩
end Go.Proofs.Ytmodcdpljflmaaa
