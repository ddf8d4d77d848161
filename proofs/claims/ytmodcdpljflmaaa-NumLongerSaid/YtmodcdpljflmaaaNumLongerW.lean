/-
  Of two numbers the greater one's short form has no fewer bytes, and unlike numbers have unlike forms. It holds for every two numbers of 64 bits.
-/
import Derived.Test.YtmodcdpljflmaaaAwake
import Derived.OpenShut
namespace Go.Proofs.Ytmodcdpljflmaaa
open Go.RowKit
set_option linter.unusedVariables false
set_option linter.unusedSimpArgs false


theorem nat_u64 {a : Int} (h : (Lit.int .u64 a).wf = true) : ∃ n : Nat, a = n ∧ U64 n := by
  have := bounds_u64 h
  exact ⟨a.toNat, by omega, by unfold U64; omega⟩

set_option maxRecDepth 10000 in
set_option maxHeartbeats 400000 in
theorem numLonger_eq (a : Nat) (ha : U64 a) (w : World) :
    Calls Try.prog 7 #[.int .u64 a, .int .u64 a] w fun e w' => e = .returned (.bool true) ∧ Below w.heap.size w w' := by
  go_enter Try.func7, Try.ntmps7
  go_wp2_with fail
  refine (put_nil a w ha).mono ?_
  rintro e w1 ⟨A, c, rfl, ho1, hb1⟩
  go_wp2_with fail
  refine (put_nil a w1 ha).mono ?_
  rintro e w2 ⟨B, d, rfl, ho2, hb2⟩
  have h10 := short_ten ha
  go_wp2_with fail
  refine (same_yes A B (short a).length (short a).length c d (short a) (short a) w2 w1.heap.size w2.heap.size ((ho1.sh).below hb2) ho2.sh (by unfold maxLen; omega) rfl).mono ?_
  rintro e w3 ⟨rfl, hq⟩
  go_wp2_with fail
  refine (awake_any _).mono ?_
  rintro e w4 ⟨rfl, hb4⟩
  go_wp2
  go_ret
  exact ⟨rfl, ((hb1.trans (hb2.mono hb1.size)).trans (hq.below _)).trans (hb4.mono (by rw [hq.size]; exact Nat.le_trans hb1.size hb2.size))⟩

set_option maxRecDepth 10000 in
set_option maxHeartbeats 800000 in
theorem numLonger_ne (a b : Nat) (ha : U64 a) (hb : U64 b) (hne : a < b ∨ b < a) (w : World) :
    Calls Try.prog 7 #[.int .u64 a, .int .u64 b] w fun e w' => e = .returned (.bool true) ∧ Below w.heap.size w w' := by
  have hn : ((a : Int) == (b : Int)) = false := by
    rw [beq_eq_false_iff_ne]
    omega
  go_enter Try.func7, Try.ntmps7
  go_wp2_with fail
  refine (put_nil a w ha).mono ?_
  rintro e w1 ⟨A, c, rfl, ho1, hb1⟩
  go_wp2_with fail
  refine (put_nil b w1 hb).mono ?_
  rintro e w2 ⟨B, d, rfl, ho2, hb2⟩
  have h10 := short_ten ha
  have h11 := short_ten hb
  go_wp2_with fail
  refine (same_no A B (short a).length (short b).length c d (short a) (short b) w2 w1.heap.size w2.heap.size ((ho1.sh).below hb2) ho2.sh (by unfold maxLen; omega) (fun h => by have := short_inj a b h; omega)).mono ?_
  rintro e w3 ⟨rfl, hq⟩
  rcases hne with h | h
  · have hl := short_mono a b (by omega)
    go_wp2_with fail
    refine (awake_any _).mono ?_
    rintro e w4 ⟨rfl, hb4⟩
    go_wp2
    go_ret
    exact ⟨rfl, ((hb1.trans (hb2.mono hb1.size)).trans (hq.below _)).trans (hb4.mono (by rw [hq.size]; exact Nat.le_trans hb1.size hb2.size))⟩
  · have hl := short_mono b a (by omega)
    have hng : ¬ a < b := by omega
    go_wp2_with fail
    refine (awake_any _).mono ?_
    rintro e w4 ⟨rfl, hb4⟩
    go_wp2
    go_ret
    exact ⟨rfl, ((hb1.trans (hb2.mono hb1.size)).trans (hq.below _)).trans (hb4.mono (by rw [hq.size]; exact Nat.le_trans hb1.size hb2.size))⟩

theorem numLonger_walk (a0 a1 : Int) (w0 : (Lit.int .u64 a0).wf = true) (w1 : (Lit.int .u64 a1).wf = true) (w : World) :
    Calls Try.prog 7 #[.int .u64 a0, .int .u64 a1] w fun e w' => e = .returned (.bool true) ∧ Below w.heap.size w w' := by
  obtain ⟨a, rfl, ha⟩ := nat_u64 w0
  obtain ⟨b, rfl, hb⟩ := nat_u64 w1
  by_cases h : a = b
  · subst h
    exact numLonger_eq a ha w
  · exact numLonger_ne a b ha hb (by omega) w
end Go.Proofs.Ytmodcdpljflmaaa
