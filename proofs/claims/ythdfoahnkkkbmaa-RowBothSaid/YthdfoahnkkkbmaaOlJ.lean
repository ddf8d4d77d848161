/-
  CONTRACTS OF the document's Join and Meet.
-/
import Derived.Test.YthdfoahnkkkbmaaOqD
namespace Go.Proofs.Ythdfoahnkkkbmaa
set_option linter.unusedVariables false
set_option linter.unusedSimpArgs false
open Go.RowKit

/-- All rows of a table at once. -/
theorem MatAt.rows {w : World} {M : Option Addr} {n : Nat} {F : Nat → Nat → Bool} (h : MatAt w M n F) : 0 < n → ∃ (mb mo : Nat) (rb ro rc : Nat → Nat), M = some ⟨mb, mo, none⟩ ∧ ∀ x, x < n → w.cell? ⟨mb, mo + x, none⟩ = some (.slice (some ⟨rb x, ro x, none⟩) n (rc x)) ∧ ∀ y, y < n → w.cell? ⟨rb x, ro x + y, none⟩ = some (.bool (F x y)) := by
  intro hn
  obtain ⟨mb, mo, e, _, hc⟩ := h hn
  have h2 : ∀ x, ∃ r : Nat × Nat × Nat, x < n → w.cell? ⟨mb, mo + x, none⟩ = some (.slice (some ⟨r.1, r.2.1, none⟩) n r.2.2) ∧ ∀ y, y < n → w.cell? ⟨r.1, r.2.1 + y, none⟩ = some (.bool (F x y)) := by
    intro x
    by_cases hx : x < n
    · obtain ⟨P, c, h1, h2⟩ := hc x hx
      obtain ⟨pb, po, u, rfl, _, _, _⟩ := h2.at hn
      refine ⟨(pb, po, c), fun _ => ⟨h1, fun y hy => ?_⟩⟩
      obtain ⟨pb', po', u, e', _, hu, hcell⟩ := h2.at hy
      cases e'
      rw [bools_at hu] at hcell
      exact hcell
    · exact ⟨(0, 0, 0), fun h => absurd h hx⟩
  obtain ⟨f, hf⟩ := Classical.axiomOfChoice h2
  exact ⟨mb, mo, fun x => (f x).1, fun x => (f x).2.1, fun x => (f x).2.2, e, hf⟩
/-- Both are at most i, and i is at most each that both are at most. -/
def jall (F : Nat → Nat → Bool) (a b i m : Nat) : Bool := (List.range m).all fun k => !(F a k && F b k) || F i k
def jcand (F : Nat → Nat → Bool) (n a b i : Nat) : Bool := (F a i && F b i) && jall F a b i n
def rjoinI (F : Nat → Nat → Bool) (n a b : Nat) : Int := match (List.range n).find? (jcand F n a b) with | some i => (i : Int) | none => -1
def oflip (F : Nat → Nat → Bool) : Nat → Nat → Bool := fun a b => F b a
theorem jall_zero (F : Nat → Nat → Bool) (a b i : Nat) : jall F a b i 0 = true := rfl
theorem jall_succ (F : Nat → Nat → Bool) (a b i m : Nat) : jall F a b i (m + 1) = (jall F a b i m && (!(F a m && F b m) || F i m)) := by
  unfold jall
  rw [List.range_succ, List.all_append]
  simp
theorem rjoin_yes {F : Nat → Nat → Bool} {n a b i : Nat} (hi : i < n) (h : jcand F n a b i = true) (hno : ∀ j, j < i → jcand F n a b j = false) : rjoinI F n a b = (i : Int) := by
  have : (List.range n).find? (jcand F n a b) = some i := by
    rw [List.find?_range_eq_some]
    exact ⟨h, List.mem_range.2 hi, fun j hj => by rw [hno j hj]; rfl⟩
  unfold rjoinI
  rw [this]
theorem rjoin_no {F : Nat → Nat → Bool} {n a b : Nat} (hno : ∀ j, j < n → jcand F n a b j = false) : rjoinI F n a b = -1 := by
  have : (List.range n).find? (jcand F n a b) = none := by
    rw [List.find?_range_eq_none]
    exact fun j hj => by rw [hno j hj]; rfl
  unfold rjoinI
  rw [this]

end Go.Proofs.Ythdfoahnkkkbmaa
