/-
  CONTRACTS OF the document's Bottom, Top, JoinAll; its lattice in memory.
-/
import Derived.Test.YthdfoahnkkkbmaaOlM
namespace Go.Proofs.Ythdfoahnkkkbmaa
set_option linter.unusedVariables false
set_option linter.unusedSimpArgs false
open Go.RowKit

/-- A row of numbers. -/
def tints (n : Nat) (f : Nat → Int) : List Value := (List.range n).map fun j => Value.int .i64 (f j)
theorem tints_len (n : Nat) (f : Nat → Int) : (tints n f).length = n := by simp [tints]
theorem tints_snoc (n : Nat) (f : Nat → Int) : tints (n + 1) f = tints n f ++ [.int .i64 (f n)] := by simp [tints, List.range_succ]
theorem tints_at {n : Nat} {f : Nat → Int} {k : Nat} {u : Value} (h : (tints n f)[k]? = some u) : u = .int .i64 (f k) := by
  unfold tints at h
  rw [List.getElem?_map] at h
  cases e : (List.range n)[k]? with
  | none => rw [e] at h; cases h
  | some x =>
    rw [e] at h
    obtain ⟨_, e⟩ := List.getElem?_eq_some_iff.1 e
    simp at e
    cases h
    rw [e]
/-- A table of numbers: rows of slices. -/
def TabAt (w : World) (M : Option Addr) (n : Nat) (f : Nat → Nat → Int) : Prop :=
  0 < n → ∃ b off, M = some ⟨b, off, none⟩ ∧ b < w.heap.size ∧ ∀ a, a < n → ∃ P c, w.cell? ⟨b, off + a, none⟩ = some (.slice P n c) ∧ Sh w w.heap.size P n (tints n (f a))
theorem TabAt.stay {w w' : World} {M : Option Addr} {n : Nat} {f : Nat → Nat → Int} (h : TabAt w M n f) (hb : Below w.heap.size w w') : TabAt w' M n f := fun hn => by
  obtain ⟨b, off, e, hlt, hc⟩ := h hn
  refine ⟨b, off, e, Nat.lt_of_lt_of_le hlt hb.size, fun a ha => ?_⟩
  obtain ⟨P, c, h1, h2⟩ := hc a ha
  exact ⟨P, c, (hb.cell (p := ⟨b, off + a, none⟩) hlt).trans h1, h2.grow hb⟩
theorem TabAt.rows {w : World} {M : Option Addr} {n : Nat} {f : Nat → Nat → Int} (h : TabAt w M n f) : 0 < n → ∃ (mb mo : Nat) (rb ro rc : Nat → Nat), M = some ⟨mb, mo, none⟩ ∧ ∀ x, x < n → w.cell? ⟨mb, mo + x, none⟩ = some (.slice (some ⟨rb x, ro x, none⟩) n (rc x)) ∧ ∀ y, y < n → w.cell? ⟨rb x, ro x + y, none⟩ = some (.int .i64 (f x y)) := by
  intro hn
  obtain ⟨mb, mo, e, _, hc⟩ := h hn
  have h2 : ∀ x, ∃ r : Nat × Nat × Nat, x < n → w.cell? ⟨mb, mo + x, none⟩ = some (.slice (some ⟨r.1, r.2.1, none⟩) n r.2.2) ∧ ∀ y, y < n → w.cell? ⟨r.1, r.2.1 + y, none⟩ = some (.int .i64 (f x y)) := by
    intro x
    by_cases hx : x < n
    · obtain ⟨P, c, h1, h2⟩ := hc x hx
      obtain ⟨pb, po, u, rfl, _, _, _⟩ := h2.at hn
      refine ⟨(pb, po, c), fun _ => ⟨h1, fun y hy => ?_⟩⟩
      obtain ⟨pb', po', u, e', _, hu, hcell⟩ := h2.at hy
      cases e'
      rw [tints_at hu] at hcell
      exact hcell
    · exact ⟨(0, 0, 0), fun h => absurd h hx⟩
  obtain ⟨g, hg⟩ := Classical.axiomOfChoice h2
  exact ⟨mb, mo, fun x => (g x).1, fun x => (g x).2.1, fun x => (g x).2.2, e, hg⟩
def rmost (o : Od) : Nat → Nat → Bool := fun a b => o.most a b
/-- The document's lattice: its order, its tables. -/
structure LatAt (w : World) (o : Od) (v m js ms : Value) : Prop where
  ref : RefAt w o v m
  jt : ∃ J c, js = .slice J o.ns.length c ∧ TabAt w J o.ns.length (rjoinI (rmost o) o.ns.length)
  mt : ∃ M c, ms = .slice M o.ns.length c ∧ TabAt w M o.ns.length (rjoinI (oflip (rmost o)) o.ns.length)
theorem LatAt.stay {w w' : World} {o : Od} {v m js ms : Value} (h : LatAt w o v m js ms) (hb : Below w.heap.size w w') : LatAt w' o v m js ms := by
  obtain ⟨h1, ⟨J, c, e, h2⟩, ⟨M, d, e2, h3⟩⟩ := h
  exact ⟨h1.stay hb, ⟨J, c, e, h2.stay hb⟩, ⟨M, d, e2, h3.stay hb⟩⟩

end Go.Proofs.Ythdfoahnkkkbmaa
