/-
  ARGUMENTS OPENED: slices of edits; the witness of a row that lists a variable.
-/
import Derived.Test.YtopeechbgblndaaDoorSpE
import Derived.Test.YtopeechbgblndaaDoorOpen
import Derived.LaidMore
import Derived.MakeChecks
import Derived.Stop.Joined
namespace Go.Proofs.YtopeechbgblndaaDoor
set_option linter.unusedVariables false
set_option linter.unusedSimpArgs false
open Go.RowKit Go.Joins Go.Deep Go.ChangeShapes Go.WideShapes

section
variable {H : Type} {enc : TypeId × Value → H} {w : World} {held : Bool} {fuel : Nat} {cs : List Value} {x : DataW H × List MemPlace}
theorem trod3 {P : Program} {base : Nat} {spare : Nat → Bool} {t : TypeId} {f0 f1 f2 : Field} (hs : P.underlying t = some (.struct #[f0, f1, f2])) (hone : oneCellFields P #[f0, f1, f2] = true) (hC : P.cellsOf t = 3) (h : DataW.trod enc P w base spare held fuel t cs = some x) :
    ∃ (c0 c1 c2 : Value) (y0 y1 y2 : DataW H × List MemPlace) (n : Nat), cs = [c0, c1, c2] ∧ DataW.trod enc P w base spare held n f0.type [c0] = some y0 ∧ DataW.trod enc P w base spare held n f1.type [c1] = some y1 ∧ DataW.trod enc P w base spare held n f2.type [c2] = some y2 := by
  obtain ⟨xs, n, _, hx, hl, hlen, hg⟩ := DataW.trod_struct hs h
  obtain ⟨o0, k0⟩ := hone_of hone 0 f0 rfl
  obtain ⟨o1, k1⟩ := hone_of hone 1 f1 rfl
  obtain ⟨o2, k2⟩ := hone_of hone 2 f2 rfl
  have hl7 : cs.length = 3 := hl.trans hC
  match cs, hl7 with
  | [c0, c1, c2], _ =>
    match xs, hlen with
    | [y0, y1, y2], _ =>
      exact ⟨c0, c1, c2, y0, y1, y2, n, rfl, by simpa [o0, k0] using hg 0 f0 rfl, by simpa [o1, k1] using hg 1 f1 rfl, by simpa [o2, k2] using hg 2 f2 rfl⟩
theorem eds_of (h : DataW.trod enc Tryd.prog w 0 (fun _ => true) held fuel 23 cs = some x) : ∃ A n c L, cs = [.slice A n c] ∧ n ≤ maxLen ∧ ShE w w.heap.size A n L ∧ BytE L ∧ (∀ x ∈ L, x.2.2.length ≤ maxLen) ∧
    ∀ x ∈ L, (Lit.int .i64 x.1).wf = true ∧ (Lit.int .i64 x.2.1).wf = true := by
  rcases open_slice (e := 38) (by kernel_rfl) h with ⟨hcs, _⟩ | ⟨a, len, cap, m, k, D, Pl, hcs, _, hl, hm, hmm, _, hi⟩
  · exact ⟨none, 0, 0, [], hcs, Nat.zero_le _, ShE.nil _ _ _, (fun x hx => by cases hx), (fun x hx => by cases hx), (fun x hx => by cases hx)⟩
  · have hC : Tryd.prog.cellsOf 38 = 3 := by kernel_rfl
    rw [hC] at hi
    have hmm : m = cap := by simpa using hmm
    have each : ∀ i, i < len → ∃ y : Ed, (∃ b off, some a = some ⟨b, off, none⟩ ∧ b < w.heap.size ∧ w.cell? ⟨b, off + i * 3, none⟩ = some (.int .i64 y.1) ∧ w.cell? ⟨b, off + i * 3 + 1, none⟩ = some (.int .i64 y.2.1) ∧ w.cell? ⟨b, off + i * 3 + 2, none⟩ = some (.string (strOfNums y.2.2))) ∧
        Byt8 y.2.2 ∧ y.2.2.length ≤ maxLen ∧ (Lit.int .i64 y.1).wf = true ∧ (Lit.int .i64 y.2.1).wf = true := fun i hlt => by
      obtain ⟨cs', hcells, ht⟩ := hi i (by omega)
      obtain ⟨c0, c1, c2, y0, y1, y2, n, rfl, h0, h1, h2⟩ := trod3 Tryd.underlying38 (by kernel_rfl) (by kernel_rfl) ht
      obtain ⟨z0, e0, _, k0⟩ := DataW.trod_int (k := .i64) (by kernel_rfl) h0
      obtain ⟨z1, e1, _, k1⟩ := DataW.trod_int (k := .i64) (by kernel_rfl) h1
      obtain ⟨s2, e2, _, k2⟩ := DataW.trod_string Tryd.underlying9 h2
      cases e0
      cases e1
      cases e2
      obtain ⟨_, _, hat⟩ := World.cells?_some hcells
      have h0 := hat 0 (by omega)
      have h1 := hat 1 (by omega)
      have h2 := hat 2 (by omega)
      obtain ⟨_, hc0, _⟩ := hi 0 (by omega)
      obtain ⟨b, off, rfl, hb⟩ := addr_plain hc0
      rw [Addr.add_lit, Addr.add_lit] at h0
      rw [Addr.add_lit, Addr.add_lit] at h1
      rw [Addr.add_lit, Addr.add_lit] at h2
      exact ⟨(z0, z1, bts s2), ⟨b, off, rfl, hb, h0, h1, by rw [str_bts]; exact h2⟩, bts_byt s2, by rw [bts_len]; exact k2, k0, k1⟩
    obtain ⟨Y, hY⟩ := choose_lt each
    have hget : ∀ x ∈ (List.range len).map Y, ∃ k, k < len ∧ x = Y k := fun x hx => by
      obtain ⟨k, hk, rfl⟩ := List.mem_map.1 hx
      exact ⟨k, List.mem_range.1 hk, rfl⟩
    refine ⟨some a, len, cap, (List.range len).map Y, hcs, Nat.le_trans hl hm, ⟨by simp, fun hn => ?_⟩, fun x hx => ?_, fun x hx => ?_, fun x hx => ?_⟩
    · obtain ⟨⟨b, off, e, hb, _⟩, _⟩ := hY 0 hn
      refine ⟨b, off, e, hb, fun k t ht => ?_⟩
      obtain ⟨h1, h2⟩ := List.getElem?_eq_some_iff.1 ht
      have hk : k < len := by simpa using h1
      have : t = Y k := by rw [← h2]; simp
      subst this
      obtain ⟨⟨b', off', e', _, hc⟩, _⟩ := hY k hk
      rw [e] at e'
      cases e'
      exact hc
    · obtain ⟨k, hk, rfl⟩ := hget x hx
      exact (hY k hk).2.1
    · obtain ⟨k, hk, rfl⟩ := hget x hx
      exact (hY k hk).2.2.1
    · obtain ⟨k, hk, rfl⟩ := hget x hx
      exact (hY k hk).2.2.2
end
theorem IsRow.formS {k : IntKind} {w : World} {a : Option Addr} {len cap : Nat} {zs : List Int} (h : IsRow k w a len cap zs) : cap = 0 ∨ ∃ b off, a = some ⟨b, off, none⟩ := by
  rcases h with ⟨rfl, rfl, rfl, rfl⟩ | ⟨x, rfl, hl, hm, hz, hcell, hwz⟩
  · exact .inl rfl
  · rcases Nat.eq_zero_or_pos cap with h0 | h0
    · exact .inl h0
    · obtain ⟨b, off, spot⟩ := x
      have hspot : spot = none := by simpa [Addr.add] using World.cell?_spot (hcell 0 (by omega))
      subst hspot
      exact .inr ⟨b, off, rfl⟩
/-- The door's own heap meets the condition. -/
theorem door_met (os : Os) (args : Array Value) : laidMetH Tryd.prog [("bytes.ErrTooLarge", Rows.laid_bytes_ErrTooLarge)] ((World.doorLaid Tryd.prog 400 os).forCall (fun _ _ => 0) ⟨#[], args, []⟩).memory := by
  rw [MakeChecks.laidMetH_plain _ _ _ (by kernel_rfl)]
  exact laidMet_of_run' 8 (by kernel_rfl) (by kernel_rfl)
end Go.Proofs.YtopeechbgblndaaDoor
