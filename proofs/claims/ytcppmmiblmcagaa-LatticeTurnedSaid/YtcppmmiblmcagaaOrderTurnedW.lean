/-
  blazonlaw13.OrderTurned is true for every input: pairs the other way about make the order the other way about: one is at most another one just if that was at most it.
  Of more than 40 pairs, or names of more than 100 bytes, it says that the document's examples hold.
-/
import Derived.Test.YtcppmmiblmcagaaOrM
import Derived.Test.YtcppmmiblmcagaaOrO
namespace Go.Proofs.Ytcppmmiblmcagaa
set_option linter.unusedVariables false
set_option linter.unusedSimpArgs false
open Go.RowKit

theorem zeroPair (w : World) : (zeroValue 53).run Try.prog w = .ok (.agg #[.string ⟨#[]⟩, .string ⟨#[]⟩, .int .i64 0]) w := by kernel_rfl
theorem rowP : RowT Try.prog 22 53 3 40 := RowT.mk (z := .agg #[.string ⟨#[]⟩, .string ⟨#[]⟩, .int .i64 0]) Try.underlying22 (by kernel_rfl) rfl (by omega)
/-- Pairs as cells. -/
def prcs (L : List OPa) : List Value := L.flatMap fun t => [.string t.1.1, .string t.1.2, .int .i64 t.2]
theorem prcs_len (L : List OPa) : (prcs L).length = L.length * 3 := by
  unfold prcs
  induction L with
  | nil => rfl
  | cons a L ih => simp only [List.flatMap_cons, List.length_append, ih, List.length_cons, List.length_nil]; omega
theorem prcs_snoc (L : List OPa) (t : OPa) : prcs (L ++ [t]) = prcs L ++ [.string t.1.1, .string t.1.2, .int .i64 t.2] := by simp [prcs]
theorem prcs_at : ∀ {L : List OPa} {k : Nat} {t : OPa}, L[k]? = some t → (prcs L)[k * 3]? = some (.string t.1.1) ∧ (prcs L)[k * 3 + 1]? = some (.string t.1.2) ∧ (prcs L)[k * 3 + 2]? = some (.int .i64 t.2)
  | [], k, t, h => by cases h
  | a :: L, 0, t, h => by cases h; exact ⟨rfl, rfl, rfl⟩
  | a :: L, k + 1, t, h => by
    have := prcs_at (L := L) (k := k) (t := t) (by simpa using h)
    have e : prcs (a :: L) = [.string a.1.1, .string a.1.2, .int .i64 a.2] ++ prcs L := rfl
    rw [e]
    have hj : ∀ j, ([Value.string a.1.1, .string a.1.2, .int .i64 a.2] ++ prcs L)[3 + j]? = (prcs L)[j]? := fun j => by
      rw [List.getElem?_append_right (by simp)]
      congr 1
      simp
    rw [show (k + 1) * 3 = 3 + k * 3 by omega, hj, show 3 + k * 3 + 1 = 3 + (k * 3 + 1) by omega, hj, show 3 + k * 3 + 2 = 3 + (k * 3 + 2) by omega, hj]
    exact this
theorem ShP.of_own {w : World} {B n : Nat} {A : Option Addr} {c : Nat} {L : List OPa} (h : Own w B 53 3 (.slice A n c) n (prcs L)) (hl : L.length = n) : ShP w w.heap.size A n L := by
  refine ⟨hl, fun hn => ?_⟩
  obtain ⟨g, cap, hv, _, hlt⟩ := h.1.form hn
  have hA : A = some ⟨g, 0, none⟩ := by injection hv
  subst hA
  refine ⟨g, 0, rfl, hlt, fun k t ht => ?_⟩
  have hc := fun j u (hu : (prcs L)[j]? = some u) => h.1.cells (g := g) rfl j u hu
  obtain ⟨h0, h1, h2⟩ := prcs_at ht
  have a0 := hc _ _ h0
  have a1 := hc _ _ h1
  have a2 := hc _ _ h2
  rw [Addr.add_lit] at a0 a1 a2
  exact ⟨a0, a1, a2⟩
/-- A pair the other way about, as the law lays it. -/
def opturn (t : OPa) : OPa := if t.1.2.size = 0 then t else ((t.1.2, t.1.1), 0)
theorem opturn_map (L : List OPa) : (L.map opturn).map (·.1) = (L.map (·.1)).map oturn := by
  rw [List.map_map, List.map_map]
  refine List.map_congr_left fun t _ => ?_
  show (opturn t).1 = oturn t.1
  unfold opturn oturn
  split <;> rfl
theorem opturn_size {L : List OPa} (hs : ∀ t ∈ L, t.1.1.size ≤ maxLen ∧ t.1.2.size ≤ maxLen) : ∀ t ∈ L.map opturn, t.1.1.size ≤ maxLen ∧ t.1.2.size ≤ maxLen := by
  intro u hu
  obtain ⟨t, ht, rfl⟩ := List.mem_map.1 hu
  have := hs t ht
  unfold opturn
  split
  · exact this
  · exact ⟨this.2, this.1⟩

end Go.Proofs.Ytcppmmiblmcagaa
