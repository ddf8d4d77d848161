/-
  '[]byte(s)' OF A STRING; strings put together.
-/
import Derived.Test.YthdfoahnkkkbmaaLexReadsW
import Derived.Lib.ConvBytes
import Derived.Laws.Concat
namespace Go.Proofs.Ythdfoahnkkkbmaa
set_option linter.unusedVariables false
set_option linter.unusedSimpArgs false
open Go.RowKit

theorem convS {w : World} {B : Nat} (s : ByteArray) (bs : List Int) (hb : bts s = bs) (hs : s.size ≤ 1000000) (hB : B ≤ w.heap.size) : ∃ wl c, (convert 9 42 (.string s)).run Try.prog w = .ok (.slice (some ⟨w.heap.size, 0, none⟩) s.size c) wl ∧
    Sh wl wl.heap.size (some ⟨w.heap.size, 0, none⟩) s.size (by8 bs) ∧ Below B w wl ∧ s.size ≤ c ∧ c ≤ maxLen := by
  refine ⟨Lib.bytesWorld w 5 s, grownCap w s.size 0 5, ?_, ?_, ?_, ?_, ?_⟩
  · exact Lib.run_convert_string_bytes w 9 42 5 s (u := .string) (by kernel_rfl) Try.underlying42 (by kernel_rfl)
  · subst hb
    refine ⟨by rw [by8_len, bts_len], fun hn => ⟨w.heap.size, 0, rfl, by rw [Lib.bytesWorld_size]; omega, fun k u hu => ?_⟩⟩
    rw [by8_get?] at hu
    obtain ⟨x, hx, rfl⟩ := Option.map_eq_some_iff.1 hu
    have hk : k < s.size := by have := (List.getElem?_eq_some_iff.1 hx).1; rwa [bts_len] at this
    rw [Nat.zero_add, Lib.bytesWorld_cell w _ s k hk]
    unfold bts at hx
    rw [List.getElem?_map] at hx
    obtain ⟨y, hy, rfl⟩ := Option.map_eq_some_iff.1 hx
    rw [List.getD, hy]
    rfl
  · refine ⟨rfl, rfl, rfl, ?_, fun k hk => ?_⟩
    · rw [Lib.bytesWorld_size]; omega
    · exact Lib.bytesWorld_at_old w _ s k (by omega)
  · exact grownCap_ge w s.size 0 _
  · exact grownCap_le_maxLen w s.size 0 _ (by unfold maxLen; omega)
theorem str_append (a b : List Int) : strOfNums a ++ strOfNums b = strOfNums (a ++ b) := by
  apply ByteArray.ext
  simp [strOfNums]
theorem str_len (a : List Int) : (strOfNums a).size = a.length := strOfNums_size a
theorem Byt8.take {l : List Int} (h : Byt8 l) (n : Nat) : Byt8 (l.take n) := fun x hx => h x (List.mem_of_mem_take hx)
theorem Byt8.drop {l : List Int} (h : Byt8 l) (n : Nat) : Byt8 (l.drop n) := fun x hx => h x (List.mem_of_mem_drop hx)
/-- Where a slice's cells lie. -/
theorem IsRow.form6 {k : IntKind} {w : World} {a : Option Addr} {len cap : Nat} {zs : List Int} (h : IsRow k w a len cap zs) : cap = 0 ∨ ∃ b off, a = some ⟨b, off, none⟩ := by
  rcases h with ⟨rfl, rfl, rfl, rfl⟩ | ⟨x, rfl, hl, hm, hz, hcell, hwz⟩
  · exact .inl rfl
  · rcases Nat.eq_zero_or_pos cap with h0 | h0
    · exact .inl h0
    · obtain ⟨b, off, spot⟩ := x
      have hc0 := hcell 0 (by omega)
      have hspot : spot = none := by simpa [Addr.add] using World.cell?_spot hc0
      subst hspot
      exact .inr ⟨b, off, rfl⟩
end Go.Proofs.Ythdfoahnkkkbmaa
