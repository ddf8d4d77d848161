import Derived.Test.YtmnggldejflooaaGreatDoorSq
import Derived.Test.YtmnggldejflooaaGreatDoorSame
import Derived.IntWalk
import Derived.WalkSpells
namespace Go.Proofs.YtmnggldejflooaaGreatDoor
set_option linter.unusedVariables false
set_option linter.unusedSimpArgs false
open Go.RowKit
theorem ret_i64 {a b : Int} (h : a = b) : Ending.returned (.int .i64 a) = .returned (.int .i64 b) := by rw [h]
def Picked (n : Nat) (w : World) (e : Ending) (w' : World) : Prop := ∃ k : Nat, k < n ∧ e = .returned (.int .i64 (k : Int)) ∧ w = w'
theorem pick_any (x : Int) (n : Nat) (w : World) (hn : 1 ≤ n) (hm : n ≤ 1099511627776) :
  CP 12 #[.int .i64 x, .int .i64 (n : Int)] w (Picked n w) := by
 have hne : ¬ (n : Int) = 0 := by omega
 have h1 : x.tmod (n : Int) < (n : Int) := Int.tmod_lt_of_pos _ (by omega)
 have h2 : -(n : Int) < x.tmod (n : Int) := Int.lt_tmod_of_pos _ (by omega)
 have hw1 : IntKind.i64.wrap (x.tmod (n : Int)) = x.tmod (n : Int) := IntWalk.i64_in _ (by omega)
 by_cases h : x.tmod (n : Int) < 0
 ·go_enter Tryz.func12, Tryz.ntmps12
  go_wp2
  go_ret
  exact ⟨(x.tmod (n : Int) + (n : Int)).toNat, by omega, ret_i64 (by omega), rfl⟩
 ·go_enter Tryz.func12, Tryz.ntmps12
  go_wp2
  go_ret
  exact ⟨(x.tmod (n : Int)).toNat, by omega, ret_i64 (by omega), rfl⟩
end Go.Proofs.YtmnggldejflooaaGreatDoor
