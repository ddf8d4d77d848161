/-
  ARGUMENTS OPENED: slices of names.
-/
import Derived.Test.YthdfoahnkkkbmaaOwG
namespace Go.Proofs.Ythdfoahnkkkbmaa
set_option linter.unusedVariables false
set_option linter.unusedSimpArgs false
open Go.RowKit Go.Joins Go.Deep Go.ChangeShapes Go.WideShapes

section
variable {H : Type} {enc : TypeId × Value → H} {w : World} {held : Bool} {fuel : Nat} {cs : List Value} {x : DataW H × List MemPlace}
theorem trod2p {P : Program} {base : Nat} {spare : Nat → Bool} {t : TypeId} {f0 f1 : Field} (hs : P.underlying t = some (.struct #[f0, f1])) (hone : oneCellFields P #[f0, f1] = true) (hC : P.cellsOf t = 2) (h : DataW.trod enc P w base spare held fuel t cs = some x) :
    ∃ (c0 c1 : Value) (y0 y1 : DataW H × List MemPlace) (n : Nat), cs = [c0, c1] ∧ DataW.trod enc P w base spare held n f0.type [c0] = some y0 ∧ DataW.trod enc P w base spare held n f1.type [c1] = some y1 := by
  obtain ⟨xs, n, _, hx, hl, hlen, hg⟩ := DataW.trod_struct hs h
  obtain ⟨o0, k0⟩ := hone_of hone 0 f0 rfl
  obtain ⟨o1, k1⟩ := hone_of hone 1 f1 rfl
  have hl7 : cs.length = 2 := hl.trans hC
  match cs, hl7 with
  | [c0, c1], _ =>
    match xs, hlen with
    | [y0, y1], _ =>
      exact ⟨c0, c1, y0, y1, n, rfl, by simpa [o0, k0] using hg 0 f0 rfl, by simpa [o1, k1] using hg 1 f1 rfl⟩
theorem nms_of (h : DataW.trod enc Try.prog w 0 (fun _ => true) held fuel 41 cs = some x) : ∃ A n c L, cs = [.slice A n c] ∧ n ≤ maxLen ∧ n ≤ c ∧ ShW w w.heap.size A n L ∧ ∀ t ∈ L, t.1.size ≤ maxLen := by
  rcases open_slice (e := 44) (by kernel_rfl) h with ⟨hcs, _⟩ | ⟨a, len, cap, m, k, D, Pl, hcs, _, hl, hm, hmm, _, hi⟩
  · exact ⟨none, 0, 0, [], hcs, Nat.zero_le _, Nat.le_refl _, ShW.nil _ _ _, (fun x hx => by cases hx)⟩
  · have hC : Try.prog.cellsOf 44 = 2 := by kernel_rfl
    rw [hC] at hi
    have hmm : m = cap := by simpa using hmm
    have each : ∀ i, i < len → ∃ y : OPn, (∃ b off, some a = some ⟨b, off, none⟩ ∧ b < w.heap.size ∧ w.cell? ⟨b, off + i * 2, none⟩ = some (.string y.1) ∧ w.cell? ⟨b, off + i * 2 + 1, none⟩ = some (.int .i64 y.2)) ∧
        y.1.size ≤ maxLen := fun i hlt => by
      obtain ⟨cs', hcells, ht⟩ := hi i (by omega)
      obtain ⟨c0, c1, y0, y1, n, rfl, h0, h1⟩ := trod2p Try.underlying44 (by kernel_rfl) (by kernel_rfl) ht
      obtain ⟨s0, e0, _, k0⟩ := DataW.trod_string Try.underlying9 h0
      obtain ⟨z1, e1, _, k1⟩ := DataW.trod_int (k := .i64) (by kernel_rfl) h1
      cases e0
      cases e1
      obtain ⟨_, _, hat⟩ := World.cells?_some hcells
      have h0 := hat 0 (by omega)
      have h1 := hat 1 (by omega)
      obtain ⟨_, hc0, _⟩ := hi 0 (by omega)
      obtain ⟨b, off, rfl, hb⟩ := addr_plainP hc0
      rw [Addr.add_lit, Addr.add_lit] at h0
      rw [Addr.add_lit, Addr.add_lit] at h1
      exact ⟨(s0, z1), ⟨b, off, rfl, hb, h0, h1⟩, k0⟩
    obtain ⟨Y, hY⟩ : ∃ Y : Nat → OPn, ∀ i, i < len → (∃ b off, some a = some ⟨b, off, none⟩ ∧ b < w.heap.size ∧ w.cell? ⟨b, off + i * 2, none⟩ = some (.string (Y i).1) ∧ w.cell? ⟨b, off + i * 2 + 1, none⟩ = some (.int .i64 (Y i).2)) ∧
        (Y i).1.size ≤ maxLen := by
      refine ⟨fun i => if h : i < len then Classical.choose (each i h) else (⟨#[]⟩, 0), fun i h => ?_⟩
      simp only [dif_pos h]
      exact Classical.choose_spec (each i h)
    have hget : ∀ x ∈ (List.range len).map Y, ∃ k, k < len ∧ x = Y k := fun x hx => by
      obtain ⟨k, hk, rfl⟩ := List.mem_map.1 hx
      exact ⟨k, List.mem_range.1 hk, rfl⟩
    refine ⟨some a, len, cap, (List.range len).map Y, hcs, Nat.le_trans hl hm, hl, ⟨by simp, fun hn => ?_⟩, fun x hx => ?_⟩
    · obtain ⟨⟨b, off, e, hb, _⟩, _⟩ := hY 0 hn
      refine ⟨b, off, e, hb, fun k t ht => ?_⟩
      obtain ⟨h1, h2⟩ := List.getElem?_eq_some_iff.1 ht
      have hk : k < len := by simpa using h1
      have : t = Y k := by rw [← h2]; simp
      subst this
      obtain ⟨⟨b', off', e', _, hc⟩, _⟩ := hY k hk
      rw [e] at e'
      cases e'
      exact hc
    · obtain ⟨k, hk, rfl⟩ := hget x hx
      exact (hY k hk).2
end
end Go.Proofs.Ythdfoahnkkkbmaa
