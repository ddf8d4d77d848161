/-
  CONTRACTS OF 'lex.Live', 'lex.Bad', 'blazonref06.Live', 'blazonref06.Same'.
  CONTRACTS OF 'lex.Bad', 'lex.Text', 'blazonref06.Same'.
-/
import Derived.Test.YthdfoahnkkkbmaaMLx
import Derived.BigRegion
import Derived.Laws.BytesArg
namespace Go.Proofs.Ythdfoahnkkkbmaa
set_option linter.unusedVariables false
set_option linter.unusedSimpArgs false
open Go.RowKit

theorem take_snocT (L : List Tk) (k : Nat) (t : Tk) (h : L[k]? = some t) : L.take (k + 1) = L.take k ++ [t] := by
  obtain ⟨hlt, rfl⟩ := List.getElem?_eq_some_iff.1 h
  rw [List.take_succ_eq_append_getElem hlt]
theorem filter_yes {L : List Tk} {k : Nat} {t : Tk} (h : L[k]? = some t) (hv : lv t = true) : (L.take (k + 1)).filter lv = (L.take k).filter lv ++ [t] := by
  rw [take_snocT L k t h, List.filter_append]; simp [hv]
theorem filter_no {L : List Tk} {k : Nat} {t : Tk} (h : L[k]? = some t) (hv : lv t = false) : (L.take (k + 1)).filter lv = (L.take k).filter lv := by
  rw [take_snocT L k t h, List.filter_append]; simp [hv]

end Go.Proofs.Ythdfoahnkkkbmaa
namespace Go.Proofs.Ythdfoahnkkkbmaa
set_option linter.unusedVariables false
set_option linter.unusedSimpArgs false
open Go.RowKit

/-- The first bad token; the zero one: there is none. -/
def badOf (L : List Tk) : Tk := ((L.find? fun t => t.1 == 5).getD (0, 0, 0))
def isBad (L : List Tk) : Bool := (L.find? fun t => t.1 == 5).isSome
def BadTo (L : List Tk) (w : World) (e : Ending) (w' : World) : Prop :=
  e = .returned (.tuple #[.agg #[.int .i64 (badOf L).1, .int .i64 (badOf L).2.1, .int .i64 (badOf L).2.2], .bool (isBad L)]) ∧ Below w.heap.size w w'
theorem bad_none {L : List Tk} (h : ∀ t ∈ L, (t.1 == 5) = false) : badOf L = (0, 0, 0) ∧ isBad L = false := by
  have : (L.find? fun t => t.1 == 5) = none := List.find?_eq_none.2 fun t ht => by simpa using h t ht
  unfold badOf isBad
  rw [this]
  exact ⟨rfl, rfl⟩
theorem bad_some {L : List Tk} {k : Nat} {t : Tk} (h : ∀ s ∈ L.take k, (s.1 == 5) = false) (hk : L[k]? = some t) (ht : (t.1 == 5) = true) : badOf L = t ∧ isBad L = true := by
  have e : L = L.take k ++ t :: L.drop (k + 1) := by
    obtain ⟨hlt, rfl⟩ := List.getElem?_eq_some_iff.1 hk
    simp
  have : (L.find? fun t => t.1 == 5) = some t := by
    rw [e, List.find?_append, List.find?_eq_none.2 (fun s hs => by simpa using h s hs)]
    simp only [Option.none_or, List.find?_cons, ht]
  unfold badOf isBad
  rw [this]
  exact ⟨rfl, rfl⟩

end Go.Proofs.Ythdfoahnkkkbmaa
