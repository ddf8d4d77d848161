/-
  ARGUMENTS OPENED: slices of pairs; CONTRACT OF the law's 'Great'.
-/
import Derived.Test.YthdfoahnkkkbmaaOrS
import Derived.Deep.Slices
import Derived.ChangeSame
import Derived.ChangeSlices
import Derived.Lib.SmallJoins
import Derived.Deep.Fields
namespace Go.Proofs.Ythdfoahnkkkbmaa
set_option linter.unusedVariables false
set_option linter.unusedSimpArgs false
open Go.RowKit Go.Joins Go.Deep Go.ChangeShapes Go.WideShapes

section
variable {H : Type} {enc : TypeId × Value → H} {w : World} {held : Bool} {fuel : Nat} {cs : List Value} {x : DataW H × List MemPlace}
theorem trod3p {P : Program} {base : Nat} {spare : Nat → Bool} {t : TypeId} {f0 f1 f2 : Field} (hs : P.underlying t = some (.struct #[f0, f1, f2])) (hone : oneCellFields P #[f0, f1, f2] = true) (hC : P.cellsOf t = 3) (h : DataW.trod enc P w base spare held fuel t cs = some x) :
    ∃ (c0 c1 c2 : Value) (y0 y1 y2 : DataW H × List MemPlace) (n : Nat), cs = [c0, c1, c2] ∧ DataW.trod enc P w base spare held n f0.type [c0] = some y0 ∧ DataW.trod enc P w base spare held n f1.type [c1] = some y1 ∧ DataW.trod enc P w base spare held n f2.type [c2] = some y2 := by
  obtain ⟨xs, n, _, hx, hl, hlen, hg⟩ := DataW.trod_struct hs h
  obtain ⟨o0, k0⟩ := hone_of hone 0 f0 rfl
  obtain ⟨o1, k1⟩ := hone_of hone 1 f1 rfl
  obtain ⟨o2, k2⟩ := hone_of hone 2 f2 rfl
  have hl7 : cs.length = 3 := hl.trans hC
  match cs, hl7 with
  | [c0, c1, c2], _ =>
    match xs, hlen with
    | [y0, y1, y2], _ =>
      exact ⟨c0, c1, c2, y0, y1, y2, n, rfl, by simpa [o0, k0] using hg 0 f0 rfl, by simpa [o1, k1] using hg 1 f1 rfl, by simpa [o2, k2] using hg 2 f2 rfl⟩
theorem addr_plainP {w : World} {a : Addr} {n : Nat} {cs : List Value} (h : w.cells? 0 (a.add (0 * (n + 1))) (n + 1) = some cs) : ∃ b off, a = ⟨b, off, none⟩ ∧ b < w.heap.size := by
  obtain ⟨_, hl, hat⟩ := World.cells?_some h
  have h0 := hat 0 (by omega)
  rw [Deep.add_add, Nat.zero_mul, List.getElem?_eq_getElem (by omega)] at h0
  obtain ⟨b, off, spot⟩ := a
  have hspot : spot = none := by simpa [Addr.add] using World.cell?_spot h0
  subst hspot
  refine ⟨b, off, rfl, ?_⟩
  have := World.block_lt_of_cell? _ _ h0
  rw [Addr.add_lit] at this
  exact this
theorem prs_of (h : DataW.trod enc Try.prog w 0 (fun _ => true) held fuel 22 cs = some x) : ∃ A n c L, cs = [.slice A n c] ∧ n ≤ maxLen ∧ n ≤ c ∧ ShP w w.heap.size A n L ∧ ∀ t ∈ L, t.1.1.size ≤ maxLen ∧ t.1.2.size ≤ maxLen := by
  rcases open_slice (e := 25) (by kernel_rfl) h with ⟨hcs, _⟩ | ⟨a, len, cap, m, k, D, Pl, hcs, _, hl, hm, hmm, _, hi⟩
  · exact ⟨none, 0, 0, [], hcs, Nat.zero_le _, Nat.le_refl _, ShP.nil _ _ _, (fun x hx => by cases hx)⟩
  · have hC : Try.prog.cellsOf 25 = 3 := by kernel_rfl
    rw [hC] at hi
    have hmm : m = cap := by simpa using hmm
    have each : ∀ i, i < len → ∃ y : OPa, (∃ b off, some a = some ⟨b, off, none⟩ ∧ b < w.heap.size ∧ w.cell? ⟨b, off + i * 3, none⟩ = some (.string y.1.1) ∧ w.cell? ⟨b, off + i * 3 + 1, none⟩ = some (.string y.1.2) ∧ w.cell? ⟨b, off + i * 3 + 2, none⟩ = some (.int .i64 y.2)) ∧
        y.1.1.size ≤ maxLen ∧ y.1.2.size ≤ maxLen := fun i hlt => by
      obtain ⟨cs', hcells, ht⟩ := hi i (by omega)
      obtain ⟨c0, c1, c2, y0, y1, y2, n, rfl, h0, h1, h2⟩ := trod3p Try.underlying25 (by kernel_rfl) (by kernel_rfl) ht
      obtain ⟨s0, e0, _, k0⟩ := DataW.trod_string Try.underlying9 h0
      obtain ⟨s1, e1, _, k1⟩ := DataW.trod_string Try.underlying9 h1
      obtain ⟨z2, e2, _, k2⟩ := DataW.trod_int (k := .i64) (by kernel_rfl) h2
      cases e0
      cases e1
      cases e2
      obtain ⟨_, _, hat⟩ := World.cells?_some hcells
      have h0 := hat 0 (by omega)
      have h1 := hat 1 (by omega)
      have h2 := hat 2 (by omega)
      obtain ⟨_, hc0, _⟩ := hi 0 (by omega)
      obtain ⟨b, off, rfl, hb⟩ := addr_plainP hc0
      rw [Addr.add_lit, Addr.add_lit] at h0
      rw [Addr.add_lit, Addr.add_lit] at h1
      rw [Addr.add_lit, Addr.add_lit] at h2
      exact ⟨((s0, s1), z2), ⟨b, off, rfl, hb, h0, h1, h2⟩, k0, k1⟩
    obtain ⟨Y, hY⟩ : ∃ Y : Nat → OPa, ∀ i, i < len → (∃ b off, some a = some ⟨b, off, none⟩ ∧ b < w.heap.size ∧ w.cell? ⟨b, off + i * 3, none⟩ = some (.string (Y i).1.1) ∧ w.cell? ⟨b, off + i * 3 + 1, none⟩ = some (.string (Y i).1.2) ∧ w.cell? ⟨b, off + i * 3 + 2, none⟩ = some (.int .i64 (Y i).2)) ∧
        (Y i).1.1.size ≤ maxLen ∧ (Y i).1.2.size ≤ maxLen := by
      refine ⟨fun i => if h : i < len then Classical.choose (each i h) else ((⟨#[]⟩, ⟨#[]⟩), 0), fun i h => ?_⟩
      simp only [dif_pos h]
      exact Classical.choose_spec (each i h)
    have hget : ∀ x ∈ (List.range len).map Y, ∃ k, k < len ∧ x = Y k := fun x hx => by
      obtain ⟨k, hk, rfl⟩ := List.mem_map.1 hx
      exact ⟨k, List.mem_range.1 hk, rfl⟩
    refine ⟨some a, len, cap, (List.range len).map Y, hcs, Nat.le_trans hl hm, hl, ⟨by simp, fun hn => ?_⟩, fun x hx => ?_⟩
    · obtain ⟨⟨b, off, e, hb, _⟩, _⟩ := hY 0 hn
      refine ⟨b, off, e, hb, fun k t ht => ?_⟩
      obtain ⟨h1, h2⟩ := List.getElem?_eq_some_iff.1 ht
      have hk : k < len := by simpa using h1
      have : t = Y k := by rw [← h2]; simp
      subst this
      obtain ⟨⟨b', off', e', _, hc⟩, _⟩ := hY k hk
      rw [e] at e'
      cases e'
      exact hc
    · obtain ⟨k, hk, rfl⟩ := hget x hx
      exact (hY k hk).2
end

/-- More than is looked at? -/
def oGreat (l : List OPr) (m : Nat) : Bool := (l.take m).any (fun p => decide (100 < p.1.size) || decide (100 < p.2.size)) || decide (m < l.length)
theorem oGreat_no {l : List OPr} {m : Nat} (h : oGreat l m = false) : l.length ≤ m ∧ ∀ p ∈ l, p.1.size ≤ 100 ∧ p.2.size ≤ 100 := by
  unfold oGreat at h
  simp only [Bool.or_eq_false_iff, decide_eq_false_iff_not] at h
  obtain ⟨h1, h2⟩ := h
  have hl : l.length ≤ m := by omega
  refine ⟨hl, fun p hp => ?_⟩
  rw [List.take_of_length_le hl] at h1
  have := List.any_eq_false.1 h1 p hp
  simp at this
  omega
end Go.Proofs.Ythdfoahnkkkbmaa
