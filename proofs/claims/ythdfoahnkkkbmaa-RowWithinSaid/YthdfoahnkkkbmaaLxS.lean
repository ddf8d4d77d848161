/-
  CONTRACTS OF 'lex.Text', 'blazonref06.Same'.
-/
import Derived.Test.YthdfoahnkkkbmaaMLl
import Derived.Laws.BytesArg
namespace Go.Proofs.Ythdfoahnkkkbmaa
set_option linter.unusedVariables false
set_option linter.unusedSimpArgs false
open Go.RowKit

theorem convert_none (src e : TypeId) (hs : Try.prog.underlying src = some (.slice e)) (he : Try.prog.underlying e = some (.int .u8)) (dst : TypeId) (hd : Try.prog.underlying dst = some .string) (p : Option Addr) (c : Nat) (w : World) :
    (convert src dst (.slice p 0 c)).run Try.prog w = .ok (.string ⟨#[]⟩) w := by
  rw [run_convert_bytes_string w src dst e _ 0 c hs he hd]
  rcases p with _ | a
  · rfl
  · have := run_bytesToString (P := Try.prog) w a 0 c [] (by simpa using run_loadCells_list (P := Try.prog) w a [] (by simp))
    exact this
/-- string(b), of bytes that are shown. -/
theorem convert_sh {w : World} {B n : Nat} {A : Option Addr} {bs : List Int} (h : Sh w B A n (by8 bs)) (c : Nat) : (convert 42 9 (.slice A n c)).run Try.prog w = .ok (.string (strOfNums bs)) w := by
  have hl : bs.length = n := by have := h.len; rwa [by8_len] at this
  rcases Nat.eq_zero_or_pos n with h0 | h0
  · subst h0
    have : bs = [] := List.eq_nil_of_length_eq_zero hl
    subst this
    exact convert_none 42 5 Try.underlying42 (by kernel_rfl) 9 (by kernel_rfl) A c w
  · obtain ⟨b, off, rfl, _, hc⟩ := h.2 h0
    refine run_convert_bytes_arg w 42 5 Try.underlying42 (by kernel_rfl) b off n c bs hl (fun i hi => ?_) 9 (by kernel_rfl)
    refine hc i _ ?_
    rw [by8_get?]
    have : i < bs.length := by omega
    simp [this]

def cutOf (bs : List Int) (y z : Int) : List Int := if 0 ≤ y ∧ y ≤ z ∧ z ≤ bs.length then (bs.take z.toNat).drop y.toNat else []

end Go.Proofs.Ythdfoahnkkkbmaa
