/-
  'awake' of layer 6, the document's examples: true.
-/
import Derived.Test.YthdfoahnkkkbmaaLxS
import Derived.Lib.SmallJoins
namespace Go.Proofs.Ythdfoahnkkkbmaa
set_option linter.unusedVariables false
set_option linter.unusedSimpArgs false
open Go.RowKit

theorem cell_mark6 (w : World) (C : Array Value) (t : TypeId) (fr : Nat × Nat) (g j : Nat) (hg : g = w.heap.size) : (w.alloc (.cells C t fr)).cell? ⟨g, j, none⟩ = C[j]? := by
  subst hg
  exact World.cell?_alloc_mark w C t fr j
theorem Sh.mark6 (w : World) (xs : List Value) (e : TypeId) (fr : Nat × Nat) : Sh (w.alloc (.cells xs.toArray e fr)) (w.heap.size + 1) (some ⟨w.heap.size, 0, none⟩) xs.length xs :=
  ⟨rfl, fun _ => ⟨w.heap.size, 0, rfl, by omega, fun k u hu => by
    rw [Nat.zero_add, cell_mark6 _ _ _ _ _ _ rfl]
    simpa using hu⟩⟩
def ex1 : List Tk := [(2, 0, 1), (4, 1, 3), (2, 3, 4), (1, 4, 6)]
theorem toks_ex1 : toks [97, 64, 61, 98, 35, 99] 0 = ex1 := by
  rw [toks_at (by decide), show (0 + tl (List.drop 0 [97, 64, 61, 98, 35, 99])) = 1 by decide, toks_at (by decide), show (1 + tl (List.drop 1 [97, 64, 61, 98, 35, 99])) = 3 by decide, toks_at (by decide),
    show (3 + tl (List.drop 3 [97, 64, 61, 98, 35, 99])) = 4 by decide, toks_at (by decide), show (4 + tl (List.drop 4 [97, 64, 61, 98, 35, 99])) = 6 by decide, toks_end (by decide)]
  decide
theorem toks_ex2 : toks [36] 0 = [(5, 0, 1)] := by
  rw [toks_at (by decide), show (0 + tl (List.drop 0 [36])) = 1 by decide, toks_end (by decide)]
  decide
theorem convC {w : World} {B : Nat} (xs : List Int) (n : Nat) (hn : xs.length = n) (hB : B ≤ w.heap.size) : ∃ wl, (convert 42 42 (.slice (some ⟨w.heap.size, 0, none⟩) n n)).run Try.prog (w.alloc (.cells (by8 xs).toArray 5)) = .ok (.slice (some ⟨w.heap.size, 0, none⟩) n n) wl ∧
    Sh wl wl.heap.size (some ⟨w.heap.size, 0, none⟩) n (by8 xs) ∧ Below B w wl := by
  refine ⟨w.alloc (.cells (by8 xs).toArray 5 (n, n + 1)), ?_, ?_, (Below.refl _ _).alloc hB _⟩
  · have h := Joins.run_convert_bytes_const_at (P := Try.prog) w 42 5 (by8 xs).toArray n n w.heap.size rfl Try.underlying42 (by kernel_rfl)
    have hsz : (by8 xs).toArray.size = n := by simp [by8, hn]
    rw [hsz] at h
    exact h
  · have := Sh.mark6 w (by8 xs) 5 (n, n + 1)
    rw [by8_len, hn] at this
    exact this.more (by simp)

end Go.Proofs.Ythdfoahnkkkbmaa
