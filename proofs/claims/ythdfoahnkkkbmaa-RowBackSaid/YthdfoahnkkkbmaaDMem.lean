/-
  A DISK IN MEMORY: names as maps, files as blocks, turns as closures; and what stays while one block turns.
-/
import Derived.Test.YthdfoahnkkkbmaaDMath
import Derived.Test.YthdfoahnkkkbmaaSame
import Derived.Test.YthdfoahnkkkbmaaRowB
import Derived.Deep.AppendLies
import Derived.WalkSpells
import Derived.Lib.Hide
namespace Go.Proofs.Ythdfoahnkkkbmaa
set_option linter.unusedVariables false
set_option linter.unusedSimpArgs false
open Go.RowKit Go.Maps

/-! ### blocks that are kept -/
/-- The blocks of X are as they were; the streams too; no block has gone. -/
structure Keeps (X : Nat → Prop) (w w' : World) : Prop where
  os : w'.os = w.os
  tape : w'.tape = w.tape
  output : w'.output = w.output
  size : w.heap.size ≤ w'.heap.size
  block : ∀ k, X k → w'.heap[k]? = w.heap[k]?
section
variable {X : Nat → Prop} {a b c : World}
theorem Keeps.refl (X : Nat → Prop) (w : World) : Keeps X w w := ⟨rfl, rfl, rfl, Nat.le_refl _, fun _ _ => rfl⟩
theorem Keeps.trans (h : Keeps X a b) (k : Keeps X b c) : Keeps X a c :=
  ⟨k.os.trans h.os, k.tape.trans h.tape, k.output.trans h.output, Nat.le_trans h.size k.size, fun i hi => (k.block i hi).trans (h.block i hi)⟩
theorem Keeps.quiet (h : Keeps X a b) (hq : Quiet b c) : Keeps X a c := by
  obtain ⟨q, rfl⟩ := hq
  exact ⟨h.os, h.tape, h.output, h.size, h.block⟩
theorem Keeps.grown {row : Option Nat} (h : Keeps X a b) (hg : b.grownBy c row) (ho : ∀ k, X k → k < b.heap.size) (hr : ∀ k, row = some k → ¬ X k) : Keeps X a c :=
  h.trans ⟨hg.os, hg.tape, hg.output, hg.size, fun k hk => hg.block k (ho k hk) (fun e => hr k e.symm hk)⟩
theorem Keeps.below {B : Nat} (h : Keeps X a b) (hX : ∀ k, k < B → X k) : Below B a b := ⟨h.os, h.tape, h.output, h.size, fun k hk => h.block k (hX k hk)⟩
end
theorem Quiet.grown {a b : World} (h : Quiet a b) (row : Option Nat) : a.grownBy b row := by
  obtain ⟨q, rfl⟩ := h
  exact ⟨rfl, rfl, rfl, Nat.le_refl _, fun _ _ _ => rfl⟩
theorem grown_refl (a : World) (row : Option Nat) : a.grownBy a row := ⟨rfl, rfl, rfl, Nat.le_refl _, fun _ _ _ => rfl⟩
theorem grown_trans {a b c : World} {row : Option Nat} (h : a.grownBy b row) (k : b.grownBy c row) : a.grownBy c row := h.andThen k fun j hj => .inr hj
theorem grown_set (a : World) (g j : Nat) (v : Value) : a.grownBy (a.setCell ⟨g, j, none⟩ v) (some g) :=
  ⟨rfl, rfl, rfl, by simp, fun k _ hk => Below.heap_setCell _ _ _ _ (fun e => hk (by rw [e]))⟩
theorem grown_of_below {a b : World} (h : Below a.heap.size a b) (row : Option Nat) : a.grownBy b row := ⟨h.os, h.tape, h.output, h.size, fun k hk _ => h.block k hk⟩
theorem heap_set_cells {w : World} {g j : Nat} {v : Value} {c : Array Value} {t : TypeId} {fr : Nat × Nat} (h : w.heap[g]? = some (.cells c t fr)) : (w.setCell ⟨g, j, none⟩ v).heap[g]? = some (.cells (c.setIfInBounds j v) t fr) := by
  simp [World.setCell, Array.getElem?_modify, h]

/-! ### a block of cells -/
/-- Block b holds the cells xs of elements t. -/
def Blk (w : World) (b : Nat) (t : TypeId) (xs : List Value) : Prop := w.heap[b]? = some (.cells xs.toArray t (0, 0))
section
variable {w w' : World} {b : Nat} {t : TypeId} {xs : List Value}
theorem Blk.lt (h : Blk w b t xs) : b < w.heap.size := (Array.getElem?_eq_some_iff.1 h).1
theorem Blk.cell (h : Blk w b t xs) (j : Nat) : w.cell? ⟨b, j, none⟩ = xs[j]? := by
  unfold Blk at h
  simp [World.cell?, h]
theorem Blk.nf (h : Blk w b t xs) (j : Nat) : w.frozen? ⟨b, j, none⟩ = false := by
  unfold Blk at h
  simp [World.frozen?, h]
theorem Blk.keep (h : Blk w b t xs) {row : Option Nat} (hg : w.grownBy w' row) (hne : row ≠ some b) : Blk w' b t xs := (hg.block b h.lt (fun e => hne e.symm)).trans h
theorem Blk.set (h : Blk w b t xs) (j : Nat) (v : Value) : Blk (w.setCell ⟨b, j, none⟩ v) b t (xs.set j v) := by
  unfold Blk at h ⊢
  rw [heap_set_cells h, List.setIfInBounds_toArray]
theorem Blk.new (w : World) (t : TypeId) (xs : List Value) : Blk (w.alloc (.cells xs.toArray t)) w.heap.size t xs := heap_alloc_new w _
theorem Blk.drewN (h : Blk w b t xs) (q : Nat) : Blk (w.drewN q) b t xs := h
theorem Blk.ne {b' : Nat} {t' : TypeId} {ys : List Value} (h : Blk w b t xs) (h' : Blk w b' t' ys) (ht : t ≠ t') : b ≠ b' := by
  intro e
  subst e
  unfold Blk at h h'
  rw [h] at h'
  simp at h'
  exact ht h'.2
end

/-! ### names -/
def ptrTo (b : Nat) : Value := .pointer (some ⟨b, 0, none⟩)
/-- How a pointer among a map's elements reads: as its block's number. -/
def ptrElem : Value → Option (DataW Unit × List MemPlace)
  | .pointer none => some (.lit (.int .i64 (-1)), [])
  | .pointer (some ⟨b, 0, none⟩) => some (.lit (.int .i64 (b : Int)), [])
  | _ => none
theorem ptrElem_to (b : Nat) : ptrElem (ptrTo b) = some (.lit (.int .i64 (b : Int)), []) := rfl
theorem ptrElem_inv {v : Value} {z : DataW Unit × List MemPlace} (h : ptrElem v = some z) : (v = .pointer none ∧ z.1 = .lit (.int .i64 (-1))) ∨ ∃ b, v = ptrTo b ∧ z.1 = .lit (.int .i64 (b : Int)) := by
  unfold ptrElem at h
  split at h
  · left; cases h; exact ⟨rfl, rfl⟩
  · rename_i b; right; cases h; exact ⟨b, rfl, rfl⟩
  · cases h
theorem strLaw : Keyed Try.prog 9 := string_keyed Try.underlying9
theorem keyStr {s : ByteArray} (hs : s.size ≤ maxLen) : keyOf Try.prog 9 (.string s) = some (.string s.data.toList) := WideMaps.keyOf_string_mk Try.underlying9 hs

/-- Block b is a map with the names N. -/
def NamesAt (w : World) (b : Nat) (N : NL) : Prop := w.ownsMap Try.prog 9 ptrElem b N.length (toD N)
theorem ownsMap_tight {w : World} {b n : Nat} {N : NL} (h : w.ownsMap Try.prog 9 ptrElem b n (toD N)) : NamesAt w b N := by
  obtain ⟨es, clock, hb, F, hs, hD⟩ := h
  refine ⟨es, clock, hb, F, ?_, hD⟩
  have := congrArg Maps.size hD
  rw [toD_size] at this
  rw [this]
  simp [Maps.size, length_sorted]
section
variable {w w' : World} {b : Nat} {N : NL}
theorem NamesAt.lt (h : NamesAt w b N) : b < w.heap.size := World.ownsMap.lt h
theorem NamesAt.keep (h : NamesAt w b N) {row : Option Nat} (hg : w.grownBy w' row) (hne : row ≠ some b) : NamesAt w' b N := World.ownsMap.kept h hg hne.symm
theorem NamesAt.ne_blk (h : NamesAt w b N) {g : Nat} {t : TypeId} {xs : List Value} (hg : Blk w g t xs) : b ≠ g := by
  obtain ⟨es, clock, hb, _⟩ := h
  intro e
  subst e
  unfold Blk at hg
  rw [hb] at hg
  cases hg
theorem NamesAt.ne_row (h : NamesAt w b N) {base : Nat} {e : TypeId} {size n : Nat} {v : Value} {xs : List Value} (hr : w.ownsRow base e size v n xs) : v.ownBlock ≠ some b := by
  obtain ⟨es, clock, hb, _⟩ := h
  rcases hr.2 with ⟨rfl, _⟩ | ⟨g, cap, cur, rfl, _, hh, _⟩
  · simp [Value.ownBlock]
  · intro e
    have : g = b := by simpa [Value.ownBlock] using e
    rw [this, hb] at hh
    cases hh
theorem NamesAt.ris (h : NamesAt w b N) : Ris N := by
  obtain ⟨es, clock, hb, F, hs, hD⟩ := h
  have hr := sorted_sorted strLaw.one _ (fit_keys F) (fit_apart strLaw F)
  have hm : N.map entD = (es.toList.map (WideElems.rg Try.prog 9 ptrElem)).foldr DataW.insert [] := by
    unfold toD at hD
    injection hD
  rw [← hm] at hr
  unfold Ris
  rw [List.pairwise_map] at hr
  exact hr
/-- A pointer, or nil. -/
def ptrOf : Option Nat → Value
  | some b => ptrTo b
  | none => .pointer none
theorem look_of {v : Value} {ps : List MemPlace} {k : Nm} (h : ptrElem v = some ((toD N).atKey (.string k) (.lit (.int .i64 (-1))), ps)) : v = ptrOf (nat? k N) := by
  rw [toD_at] at h
  cases e : nat? k N with
  | none =>
    rw [e] at h
    rcases ptrElem_inv h with ⟨h1, _⟩ | ⟨c, _, h2⟩
    · exact h1
    · simp at h2
  | some c =>
    rw [e] at h
    rcases ptrElem_inv h with ⟨_, h2⟩ | ⟨d, h1, h2⟩
    · simp at h2
    · rw [h1]
      simp at h2
      have : c = d := by omega
      rw [this]
      rfl
end
theorem NamesAt.made (w : World) : NamesAt (w.alloc (.map #[] 0)) w.heap.size [] := World.ownsMap_made w Try.prog 9 ptrElem

section
variable {ops : Array Oper} {rest : List Oper} {o : Oper} {a : Act} {Q : Exit → Act → World → Prop}
end
end Go.Proofs.Ythdfoahnkkkbmaa
