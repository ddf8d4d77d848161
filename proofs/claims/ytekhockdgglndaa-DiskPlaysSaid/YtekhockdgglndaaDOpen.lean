/-
  ARGUMENTS OPENED: acts, slices of acts, slices of files.
-/
import Derived.Test.YtekhockdgglndaaActs
import Derived.Test.YtekhockdgglndaaOpen
import Derived.Deep.Slices
import Derived.ChangeSame
import Derived.ChangeSlices
import Derived.Lib.SmallJoins
import Derived.Deep.Fields
namespace Go.Proofs.Ytekhockdgglndaa
set_option linter.unusedVariables false
set_option linter.unusedSimpArgs false
open Go.RowKit Go.Maps Go.Joins Go.Deep Go.ChangeShapes Go.WideShapes

section
variable {H : Type} {enc : TypeId × Value → H} {w : World} {held : Bool} {fuel : Nat} {cs : List Value} {x : DataW H × List MemPlace}
theorem act_of (h : DataW.trod enc Try.prog w 0 (fun _ => true) held fuel 36 cs = some x) : ∃ a : Ac, cs = a.vals ∧ a.ok w w.heap.size := by
  obtain ⟨c0, c1, c2, c3, c4, c5, c6, y0, y1, y2, y3, y4, y5, y6, n, rfl, h0, h1, h2, h3, h4, h5, h6⟩ := trod7 Try.underlying36 (by kernel_rfl) (by kernel_rfl) h
  obtain ⟨z0, e0, _, k0⟩ := DataW.trod_int (k := .i64) (by kernel_rfl) h0
  obtain ⟨s1, e1, _, k1⟩ := DataW.trod_string Try.underlying9 h1
  obtain ⟨s2, e2, _, k2⟩ := DataW.trod_string Try.underlying9 h2
  obtain ⟨A3, l3, c3, zs3, e3, r3⟩ := row_of (k := .u8) (e := 5) (by kernel_rfl) (by kernel_rfl) (by kernel_rfl) h3
  obtain ⟨z4, e4, _, k4⟩ := DataW.trod_int (k := .i64) (by kernel_rfl) h4
  obtain ⟨z5, e5, _, k5⟩ := DataW.trod_int (k := .i64) (by kernel_rfl) h5
  obtain ⟨A6, l6, c6, zs6, e6, r6⟩ := row_of (k := .i64) (e := 3) (by kernel_rfl) (by kernel_rfl) (by kernel_rfl) h6
  obtain ⟨l3', m3, _, q3, b3⟩ := r3.sh
  obtain ⟨l6', m6, _, q6, b6⟩ := r6.sh
  refine ⟨⟨z0, s1, s2, A3, l3, c3, zs3.take l3, z4, z5, A6, l6, c6, zs6.take l6⟩, ?_, ⟨k0, k1, k2, q3, Nat.le_trans l3' m3, b3, k4, k5, q6, Nat.le_trans l6' m6⟩⟩
  cases e0
  cases e1
  cases e2
  cases e3
  cases e4
  cases e5
  cases e6
  rfl

instance : Inhabited Ac := ⟨⟨0, ⟨#[]⟩, ⟨#[]⟩, none, 0, 0, [], 0, 0, none, 0, 0, []⟩⟩
instance : Inhabited FIn := ⟨⟨⟨#[]⟩, []⟩⟩
theorem acts_of (h : DataW.trod enc Try.prog w 0 (fun _ => true) held fuel 23 cs = some x) : ∃ A n c l, cs = [.slice A n c] ∧ n ≤ maxLen ∧ ActsIn w w.heap.size A n l := by
  rcases open_slice (e := 36) (by kernel_rfl) h with ⟨hcs, _⟩ | ⟨a, len, cap, m, k, D, Pl, hcs, _, hl, hm, hmm, _, hi⟩
  · exact ⟨none, 0, 0, [], hcs, Nat.zero_le _, rfl, fun k x hx => by simp at hx⟩
  · have hC : Try.prog.cellsOf 36 = 7 := by kernel_rfl
    rw [hC] at hi
    have hmm : m = cap := by simpa using hmm
    have each : ∀ i, i < len → ∃ y : Ac, (∃ b off, some a = some ⟨b, off, none⟩ ∧ b < w.heap.size ∧ ∀ j v, y.vals[j]? = some v → w.cell? ⟨b, off + i * 7 + j, none⟩ = some v) ∧ y.ok w w.heap.size := fun i hlt => by
      obtain ⟨cs', hcells, ht⟩ := hi i (by omega)
      obtain ⟨y, rfl, hy⟩ := act_of ht
      obtain ⟨_, _, hat⟩ := World.cells?_some hcells
      obtain ⟨_, hc0, _⟩ := hi 0 (by omega)
      obtain ⟨b, off, rfl, hb⟩ := addr_plain hc0
      refine ⟨y, ⟨b, off, rfl, hb, fun j v hv => ?_⟩, hy⟩
      have hj : j < 7 := (List.getElem?_eq_some_iff.1 hv).1
      have := hat j hj
      rw [Addr.add_lit, Addr.add_lit] at this
      rw [this, hv]
    obtain ⟨Y, hY⟩ := choose_lt each
    refine ⟨some a, len, cap, (List.range len).map Y, hcs, Nat.le_trans hl hm, by simp, fun k x hx => ?_⟩
    obtain ⟨h1, h2⟩ := List.getElem?_eq_some_iff.1 hx
    have hk : k < len := by simpa using h1
    have : x = Y k := by rw [← h2]; simp
    rw [this]
    exact hY k hk

theorem files_of (h : DataW.trod enc Try.prog w 0 (fun _ => true) held fuel 22 cs = some x) : ∃ A n c l, cs = [.slice A n c] ∧ n ≤ maxLen ∧ InAt w w.heap.size A n l ∧ ∀ f ∈ l, ∀ y ∈ f.d, (Lit.int .u8 y).wf = true := by
  rcases open_slice (e := 46) (by kernel_rfl) h with ⟨hcs, _⟩ | ⟨a, len, cap, m, k, D, Pl, hcs, _, hl, hm, hmm, _, hi⟩
  · exact ⟨none, 0, 0, [], hcs, Nat.zero_le _, ⟨rfl, fun k x hx => by simp at hx⟩, fun f hf => by simp at hf⟩
  · have hC : Try.prog.cellsOf 46 = 2 := by kernel_rfl
    rw [hC] at hi
    have hmm : m = cap := by simpa using hmm
    have each : ∀ i, i < len → ∃ y : FIn, (∃ b off D c, some a = some ⟨b, off, none⟩ ∧ b < w.heap.size ∧ w.cell? ⟨b, off + i * 2, none⟩ = some (.string y.s) ∧ w.cell? ⟨b, off + i * 2 + 1, none⟩ = some (.slice D y.d.length c) ∧ Sh w w.heap.size D y.d.length (by8 y.d) ∧ y.s.size ≤ maxLen ∧ y.d.length ≤ maxLen) ∧ ∀ z ∈ y.d, (Lit.int .u8 z).wf = true := fun i hlt => by
      obtain ⟨cs', hcells, ht⟩ := hi i (by omega)
      obtain ⟨c0, c1, y0, y1, n, rfl, h0, h1⟩ := trod2 Try.underlying46 (by kernel_rfl) (by kernel_rfl) ht
      obtain ⟨s, e0, _, k0⟩ := DataW.trod_string Try.underlying9 h0
      obtain ⟨A3, l3, c3, zs3, e3, r3⟩ := row_of (k := .u8) (e := 5) (by kernel_rfl) (by kernel_rfl) (by kernel_rfl) h1
      cases e0
      cases e3
      obtain ⟨l3', m3, z3, q3, b3⟩ := r3.sh
      obtain ⟨_, _, hat⟩ := World.cells?_some hcells
      have h0 := hat 0 (by omega)
      have h1 := hat 1 (by omega)
      obtain ⟨_, hc0, _⟩ := hi 0 (by omega)
      obtain ⟨b, off, rfl, hb⟩ := addr_plain hc0
      rw [Addr.add_lit, Addr.add_lit] at h0
      rw [Addr.add_lit, Addr.add_lit] at h1
      have hlen : (zs3.take l3).length = l3 := by rw [List.length_take]; omega
      exact ⟨⟨s, zs3.take l3⟩, ⟨b, off, A3, c3, rfl, hb, h0, by rw [h1]; show _ = some (Value.slice _ (zs3.take l3).length _); rw [hlen]; rfl, by show Sh _ _ _ (zs3.take l3).length _; rw [hlen]; exact q3, k0, by show (zs3.take l3).length ≤ _; rw [hlen]; exact Nat.le_trans l3' m3⟩, b3⟩
    obtain ⟨Y, hY⟩ := choose_lt each
    refine ⟨some a, len, cap, (List.range len).map Y, hcs, Nat.le_trans hl hm, ⟨by simp, fun k x hx => ?_⟩, fun f hf => ?_⟩
    · obtain ⟨h1, h2⟩ := List.getElem?_eq_some_iff.1 hx
      have hk : k < len := by simpa using h1
      have : x = Y k := by rw [← h2]; simp
      rw [this]
      exact (hY k hk).1
    · obtain ⟨k, hk, rfl⟩ := List.mem_map.1 hf
      exact (hY k (List.mem_range.1 hk)).2
end
end Go.Proofs.Ytekhockdgglndaa
