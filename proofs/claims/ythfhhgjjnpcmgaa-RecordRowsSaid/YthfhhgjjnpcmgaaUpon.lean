/-
  WHAT A CALL WITH A SUMMER LEAVES: of the blocks that lay there only the summer's turns; new ones may be made.
-/
import Derived.Test.YthfhhgjjnpcmgaaWords
namespace Go.Proofs.Ythfhhgjjnpcmgaa
set_option linter.unusedVariables false
set_option linter.unusedSimpArgs false
open Go.RowKit

structure Upon (g : Nat) (w w' : World) : Prop where
  os : w'.os = w.os
  tape : w'.tape = w.tape
  output : w'.output = w.output
  size : w.heap.size ≤ w'.heap.size
  block : ∀ k, k < w.heap.size → k ≠ g → w'.heap[k]? = w.heap[k]?
section
variable {g : Nat} {a b c : World}
theorem Upon.refl (g : Nat) (w : World) : Upon g w w := ⟨rfl, rfl, rfl, Nat.le_refl _, fun _ _ _ => rfl⟩
theorem Upon.trans (h : Upon g a b) (k : Upon g b c) : Upon g a c :=
  ⟨k.os.trans h.os, k.tape.trans h.tape, k.output.trans h.output, Nat.le_trans h.size k.size, fun i hi hg => (k.block i (Nat.lt_of_lt_of_le hi h.size) hg).trans (h.block i hi hg)⟩
theorem Upon.of_only (h : Only g a b) : Upon g a b := ⟨h.os, h.tape, h.output, Nat.le_of_eq h.size.symm, fun k _ hg => h.block k hg⟩
theorem Upon.of_below (h : Below a.heap.size a b) : Upon g a b := ⟨h.os, h.tape, h.output, h.size, fun k hk _ => h.block k hk⟩
theorem Upon.of_quiet (h : Quiet a b) : Upon g a b := Upon.of_below (h.below _)
theorem Upon.only (h : Upon g a b) (k : Only g b c) : Upon g a c := h.trans (Upon.of_only k)
theorem Upon.below' (h : Upon g a b) (k : Below b.heap.size b c) : Upon g a c := h.trans (Upon.of_below k)
theorem Upon.quiet (h : Upon g a b) (k : Quiet b c) : Upon g a c := h.trans (Upon.of_quiet k)
theorem Upon.alloc (h : Upon g a b) (o : Obj) : Upon g a (b.alloc o) := h.below' ((Below.refl _ _).alloc (Nat.le_refl _) o)
theorem Upon.cell (h : Upon g a b) {p : Addr} (hp : p.block < a.heap.size) (hg : p.block ≠ g) : b.cell? p = a.cell? p := World.cell?_of_block (w := a) (h.block p.block hp hg)
theorem Upon.below (h : Upon g a b) {B : Nat} (hB : B ≤ g) (hs : B ≤ a.heap.size) : Below B a b := ⟨h.os, h.tape, h.output, h.size, fun k hk => h.block k (by omega) (by omega)⟩
theorem Sh.upon {U n : Nat} {A : Option Addr} {xs : List Value} (h : Sh a U A n xs) (hu : Upon g a b) (hU : U ≤ a.heap.size) (hA : Off A n g) : Sh b U A n xs :=
  ⟨h.1, fun hn => by
    obtain ⟨q, off, e, hb, hc⟩ := h.2 hn
    exact ⟨q, off, e, hb, fun k u hk => (hu.cell (p := ⟨q, off + k, none⟩) (by simp only; omega) (hA hn ⟨q, off, none⟩ e)).trans (hc k u hk)⟩⟩
theorem Own.upon {B n size : Nat} {e : TypeId} {v : Value} {xs : List Value} (h : Own a B e size v n xs) (hu : Upon g a b) (hg : g < B) : Own b B e size v n xs := by
  refine ⟨⟨h.1.1, ?_⟩, Nat.le_trans h.2 hu.size⟩
  rcases h.1.2 with h1 | ⟨q, cap, cur, h1, h2, h3, h4⟩
  · exact .inl h1
  · exact .inr ⟨q, cap, cur, h1, h2, (hu.block q (Array.getElem?_eq_some_iff.1 h3).1 (by omega)).trans h3, h4⟩
theorem Upon.setCell (h : Upon g a b) {p : Addr} (hp : a.heap.size ≤ p.block) (v : Value) : Upon g a (b.setCell p v) :=
  ⟨h.os, h.tape, h.output, by simpa using h.size, fun k hk hg => (Below.heap_setCell _ _ _ _ (by omega)).trans (h.block k hk hg)⟩
theorem Own.set {B n size : Nat} {e : TypeId} {v : Value} {xs : List Value} (h : Own a B e size v n xs) {p : Addr} (hp : p.block < B) (u : Value) : Own (a.setCell p u) B e size v n xs := by
  refine ⟨⟨h.1.1, ?_⟩, by simpa using h.2⟩
  rcases h.1.2 with h1 | ⟨q, cap, cur, h1, h2, h3, h4⟩
  · exact .inl h1
  · exact .inr ⟨q, cap, cur, h1, h2, (Below.heap_setCell _ _ _ _ (by omega)).trans h3, h4⟩
theorem Smr.below_ {d : Bool} {k : Nat} (s : Smr a g d k) (h : Below a.heap.size a b) : Smr b g d k := s.below h s.lt
end
theorem below_drew (B : Nat) (w : World) : Below B w w.drew := ⟨rfl, rfl, rfl, Nat.le_refl _, fun _ _ => rfl⟩
end Go.Proofs.Ythfhhgjjnpcmgaa
