/-
  CONTRACT OF slices.Clone at bytes.
-/
import Derived.Test.YtekhockdgglndaaRowB
import Derived.Test.YtekhockdgglndaaSame
import Derived.Lib.SliceRun
namespace Go.Proofs.Ytekhockdgglndaa
set_option linter.unusedVariables false
set_option linter.unusedSimpArgs false
open Go.RowKit

set_option maxRecDepth 10000 in
set_option maxHeartbeats 800000 in
theorem clone_any (A : Option Addr) (n c : Nat) (xs : List Int) (w : World) (U : Nat) (hx : Sh w U A n (by8 xs)) (hU : U ≤ w.heap.size) (hn : n ≤ 10000000) :
    Calls Try.prog 23 #[.slice A n c] w fun e w' => ∃ v, e = .returned v ∧ Own w' w.heap.size 5 1 v n (by8 xs) ∧ Below w.heap.size w w' := by
  have heq := fun (w : World) (a : Option Addr) (n c : Nat) => Lib.run_eql_slice_nil (P := Try.prog) w 32 5 a n c 0 0 Try.underlying32
  cases A with
  | none =>
    have h0 : n = 0 := by
      rcases Nat.eq_zero_or_pos n with h | h
      · exact h
      · obtain ⟨b, off, e, _⟩ := hx.2 h
        cases e
    subst h0
    have hxs : xs = [] := by
      have := hx.len
      rw [by8_len] at this
      exact List.eq_nil_of_length_eq_zero this
    subst hxs
    clear hx
    go_enter Try.func23, Try.ntmps23
    go_wp2
    go_ret
    exact ⟨_, rfl, Own.nil _ _ _ _ (Nat.le_refl _), Below.refl _ _⟩
  | some ad =>
    go_enter Try.func23, Try.ntmps23
    go_wp2_with (first
      | (at_builtin; refine wpList_more rfl (.tmp 5) (.tmp 6) 32 rfl rowB w (w.alloc (.cells #[] 5)) w.heap.size _ 0 [] (by8 xs) rfl (Own.empty w w.heap.size 5 1 (Nat.le_refl _)) U (some ad) n c rfl (hx.alloc hU _) (by8_one _) ((Below.refl _ _).alloc (Nat.le_refl _) _) (by omega) (by omega) ?_; intro v1 w1 ho1 hb1; have ho1 := ho1.cast (Nat.zero_add _) (List.nil_append _); obtain ⟨G, d, rfl⟩ := ho1.form)
      | go_in)
    go_ret
    exact ⟨_, rfl, ho1, hb1⟩
end Go.Proofs.Ytekhockdgglndaa
