/-
  WHAT TURNS IN ONE BLOCK ALONE.
-/
import Derived.Test.YtnhdpegjkkaabaaMem
import Derived.Laws.LoneSync
import Derived.Laws.NewBlocks
namespace Go.Proofs.Ytnhdpegjkkaabaa
set_option linter.unusedVariables false
set_option linter.unusedSimpArgs false
open Go.RowKit

/-- Only cells of the block g turn; the streams, the other blocks and all marks stay. -/
structure Only (g : Nat) (w w' : World) : Prop where
  os : w'.os = w.os
  tape : w'.tape = w.tape
  output : w'.output = w.output
  size : w'.heap.size = w.heap.size
  block : ∀ k, k ≠ g → w'.heap[k]? = w.heap[k]?
  frozen : ∀ a, w'.frozen? a = w.frozen? a
section
variable {g : Nat} {a b c : World}
theorem Only.refl (g : Nat) (w : World) : Only g w w := ⟨rfl, rfl, rfl, rfl, fun _ _ => rfl, fun _ => rfl⟩
theorem Only.trans (h : Only g a b) (k : Only g b c) : Only g a c :=
  ⟨k.os.trans h.os, k.tape.trans h.tape, k.output.trans h.output, k.size.trans h.size, fun i hi => (k.block i hi).trans (h.block i hi), fun p => (k.frozen p).trans (h.frozen p)⟩
theorem Only.drew (h : Only g a b) : Only g a b.drew := ⟨h.os, h.tape, h.output, h.size, h.block, h.frozen⟩
theorem Only.quiet (h : Only g a b) (hq : Quiet b c) : Only g a c := by
  obtain ⟨q, rfl⟩ := hq
  exact ⟨h.os, h.tape, h.output, h.size, h.block, h.frozen⟩
theorem Only.setCell (h : Only g a b) (j : Nat) (v : Value) : Only g a (b.setCell ⟨g, j, none⟩ v) :=
  h.trans ⟨rfl, rfl, rfl, by simp, fun k hk => Below.heap_setCell _ _ _ _ hk, fun p => World.frozen?_setCell _ _ _ _⟩
theorem Only.cell (h : Only g a b) {p : Addr} (hp : p.block ≠ g) : b.cell? p = a.cell? p := World.cell?_of_block (w := a) (h.block p.block hp)
theorem Only.below (h : Only g a b) {B : Nat} (hB : B ≤ g) : Below B a b := ⟨h.os, h.tape, h.output, Nat.le_of_eq h.size.symm, fun k hk => h.block k (by omega)⟩
end

def donev (d : Bool) : Int := match d with | true => 1 | false => 0
theorem off_ne {g i j : Nat} (h : i ≠ j) : (⟨g, i, none⟩ : Addr) ≠ ⟨g, j, none⟩ := fun e => h (by injection e)
end Go.Proofs.Ytnhdpegjkkaabaa
