/-
  blazonlaw06.LexReads is true for every input: the tokens that lex.All tells of any bytes, those that count, and the first bad one, are the document's; the bytes stay.
  Conditions: none beyond the statement's own.
-/
import Derived.Test.YthdfoahnkkkbmaaLxE
import Derived.Test.YthdfoahnkkkbmaaLxQ
import Derived.Test.YthdfoahnkkkbmaaLent
import Derived.Deep.RegionHeld3
namespace Go.Proofs.Ythdfoahnkkkbmaa
set_option linter.unusedVariables false
set_option linter.unusedSimpArgs false
open Go.RowKit

def Byt8 (l : List Int) : Prop := ∀ x ∈ l, 0 ≤ x ∧ x < 256
theorem byt8_of {l : List Int} (h : ∀ n ∈ l, (Lit.int .u8 n).wf = true) : Byt8 l := fun x hx => by
  have := bounds_u8 (h x hx)
  omega
theorem bts_str {xs : List Int} (h : Byt8 xs) : bts (strOfNums xs) = xs := by
  unfold bts
  rw [strOfNums_data, List.map_map]
  refine (List.map_congr_left fun x hx => ?_).trans (List.map_id xs)
  obtain ⟨h0, h1⟩ := h x hx
  have : x.toNat < 256 := by omega
  simp [UInt8.toNat_ofNat, Nat.mod_eq_of_lt this]
  omega
theorem bad_at {L : List Tk} {k : Nat} (hno : ∀ t ∈ L.take k, (t.1 == 5) = false) {t : Tk} (hk : L[k]? = some t) (ht : (t.1 == 5) = false) : ∀ t ∈ L.take (k + 1), (t.1 == 5) = false := fun s hs => by
  rw [take_snocT L k t hk] at hs
  rcases List.mem_append.1 hs with h | h
  · exact hno s h
  · rw [List.mem_singleton.1 h]; exact ht

end Go.Proofs.Ythdfoahnkkkbmaa
